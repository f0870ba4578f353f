/- An argument that is a slice of integers, opened as a row of its elements. -/
import Derived.Test.YtdgaemgilcbdiaaA
namespace Go.Proofs.Ytdgaemgilcbdiaa
open Go.RowKit
theorem row_opened {W : World} {x : Addr} {k : IntKind} {len cap : Nat} {zs : List Int} (hl : len ≤ cap) (hm : cap ≤ maxLen) (hz : zs.length = cap)
    (hcell : ∀ i, i < zs.length → W.cell? (x.add i) = some (.int k (zs.getD i 0))) (hwz : ∀ n ∈ zs, (Lit.int k n).wf = true) :
    ∃ ys : List Int, Row W (some x) (ys.map (Value.int k)) ∧ len ≤ cap ∧ cap ≤ maxLen ∧ ys.length = len ∧ ∀ n ∈ ys, (Lit.int k n).wf = true := by
  refine ⟨zs.take len, ?_, hl, hm, by rw [List.length_take]; omega, fun n hn => hwz n (List.mem_of_mem_take hn)⟩
  rcases Nat.eq_zero_or_pos len with h0 | h0
  · subst h0; exact .inl rfl
  · obtain ⟨b, off, spot⟩ := x
    have h1 := hcell 0 (by omega)
    have hs : spot = none := by simpa [Addr.add] using World.cell?_spot h1
    subst hs
    refine .inr ⟨b, off, rfl, fun j u hu => ?_⟩
    have hj : j < len ∧ j < zs.length := by
      rcases Nat.lt_or_ge j len with h | h
      · exact ⟨h, by omega⟩
      · rw [List.getElem?_eq_none (by rw [List.length_map, List.length_take]; omega)] at hu; cases hu
    have h2 := hcell j hj.2
    have hu' : u = .int k (zs.getD j 0) := by
      rw [List.getElem?_map, List.getElem?_take_of_lt hj.1, List.getElem?_eq_getElem hj.2] at hu
      rw [List.getD_eq_getElem?_getD, List.getElem?_eq_getElem hj.2]
      simpa using hu.symm
    rw [hu', ← h2]
    congr 1
    unfold Addr.add
    split
    · rename_i h; subst h; rfl
    · rfl
theorem wf_bd {n : Int} (h : (Lit.int .i64 n).wf = true) : -9223372036854775808 ≤ n ∧ n ≤ 9223372036854775807 := by
  have := bounds_i64 h
  exact this
end Go.Proofs.Ytdgaemgilcbdiaa
