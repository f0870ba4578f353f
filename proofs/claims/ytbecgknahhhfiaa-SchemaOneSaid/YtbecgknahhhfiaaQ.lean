/- Arguments that are lists of texts, opened. -/
import Derived.Test.YtbecgknahhhfiaaB
import Derived.Deep.Strs
import Derived.ProofKit
import Derived.OpenShut
import Derived.ShutString
import Derived.Lib.SmallJoins
namespace Go.Proofs.Ytbecgknahhhfiaa
open Go.ChangeShapes Go.WideShapes Go.ChangeAt Go.RowKit Go.Joins
set_option linter.unusedSimpArgs false
set_option linter.unusedVariables false
section
variable {H : Type} {enc : TypeId × Value → H} {w : World} {base : Nat} {spare : Nat → Bool} {held : Bool}
def Strs (w : World) (v : Value) (L : List ByteArray) : Prop :=
  ∃ A n c, v = .slice A n c ∧ Row w A (texts L) ∧ n = L.length ∧ n ≤ c ∧ c ≤ 9223372036854775807 ∧ (∀ s ∈ L, s.size ≤ 9223372036854775807) ∧ (A = none → c = 0)
theorem strs_opened {v : Value} {fuel : Nat} {x : DataW H × List MemPlace} (h : DataW.trod enc Try.prog w base spare held fuel 22 [v] = some x) : ∃ L, Strs w v L := by
  rcases Go.Deep.open_strs Try.underlying22 Try.underlying9 (by kernel_rfl) h with ⟨hcs, _⟩ | ⟨a, len, cap, m, Sx, hcs, _, hl, hm, hmm, _, hx⟩
  · simp at hcs
    exact ⟨[], none, 0, 0, hcs, .inl rfl, rfl, by omega, by omega, by simp, fun _ => rfl⟩
  · simp at hcs
    have hlm : len ≤ m := by rw [hmm]; split <;> omega
    refine ⟨(List.range len).map Sx, some a, len, cap, hcs, ?_, by simp, hl, by unfold maxLen at hm; omega, ?_, fun h => by cases h⟩
    · rcases Nat.eq_zero_or_pos len with h0 | h0
      · subst h0; exact .inl rfl
      · obtain ⟨b, off, spot⟩ := a
        have h1 := (hx 0 (by omega)).1
        have hs : spot = none := by simpa [Addr.add] using World.cell?_spot h1
        subst hs
        refine .inr ⟨b, off, rfl, fun j u hu => ?_⟩
        unfold texts at hu
        rw [List.map_map] at hu
        have hj : j < len := by
          rcases Nat.lt_or_ge j len with h | h
          · exact h
          · rw [List.getElem?_eq_none (by simpa using h)] at hu; cases hu
        rw [List.getElem?_map, List.getElem?_range hj] at hu
        simp at hu
        rw [← hu, ← (hx j (by omega)).1]
        congr 1
        unfold Addr.add
        split
        · rename_i h; subst h; rfl
        · rfl
    · intro s hs
      obtain ⟨i, hi, rfl⟩ := List.mem_map.1 hs
      have := (hx i (by have := List.mem_range.1 hi; omega)).2
      unfold maxLen at this; exact this
theorem strs_sized {A : Option Addr} {n c fuel : Nat} {x : DataW H × List MemPlace} (h : DataW.trod enc Try.prog w base spare held fuel 22 [.slice A n c] = some x) (hz : ∀ k ∈ x.1.weights Try.prog 22, k ≤ reachBytes) : n * 16 ≤ 140737488351232 := by
  rcases Go.Deep.open_strs Try.underlying22 Try.underlying9 (by kernel_rfl) h with ⟨hcs, _⟩ | ⟨a, len, cap, m, Sx, hcs, _, hl, hm, hmm, hx, _⟩
  · simp at hcs; omega
  · simp at hcs
    obtain ⟨rfl, rfl, rfl⟩ := hcs
    have hb : Try.prog.bytesOf 9 = 16 := by kernel_rfl
    have := hz ((((List.range n).map fun i => DataW.lit (H := H) (.string (Sx i).data.toList)).length + ((List.range (m - n)).map fun j => DataW.lit (H := H) (.string (Sx (n + j)).data.toList)).length) * Try.prog.bytesOf 9) (by rw [hx]; simp [DataW.weights, Try.underlying22])
    rw [hb] at this
    simp only [List.length_map, List.length_range, reachBytes] at this
    omega
theorem ints_opened {v : Value} {fuel : Nat} {x : DataW H × List MemPlace} (h : DataW.trod enc Try.prog w base (fun _ => true) held fuel 25 [v] = some x) :
    ∃ (X : List Int) (A : Option Addr) (n c : Nat), v = .slice A n c ∧ Row w A (X.map (Value.int .i64)) ∧ n = X.length ∧ n ≤ c ∧ c ≤ 9223372036854775807 ∧ ∀ x ∈ X, (Lit.int .i64 x).wf = true := by
  rcases open_ints Try.underlying25 Try.underlying3 (by kernel_rfl) h with ⟨hcs, _⟩ | ⟨x, l, c, zs, hcs, _, hl, hm, hz, _, hcell, hwz⟩
  · simp at hcs
    exact ⟨[], none, 0, 0, hcs, .inl rfl, rfl, by omega, by omega, by simp⟩
  · simp at hcs
    obtain ⟨ys, h1, h2, h3, h4, h5⟩ := row_opened hl hm hz hcell hwz
    exact ⟨ys, some x, l, c, hcs, h1, h4.symm, h2, by unfold maxLen at h3; omega, h5⟩
end
end Go.Proofs.Ytbecgknahhhfiaa
