/- An argument that is a list of lists of bytes, opened. -/
import Derived.Test.YtnnagjlpkieobaaDoorYM
import Derived.Test.YtnnagjlpkieobaaDoorW
import Derived.Deep.Matrix
namespace Go.Proofs.YtnnagjlpkieobaaDoor
open Go.ChangeShapes Go.WideShapes Go.ChangeAt Go.RowKit Go.Joins
set_option linter.unusedSimpArgs false
set_option linter.unusedVariables false
theorem row_exact {W : World} {x : Addr} {k : IntKind} {len : Nat} {zs : List Int} (hl : len ≤ zs.length)
    (hcell : ∀ i, i < zs.length → W.cell? (x.add i) = some (.int k (zs.getD i 0))) : Row W (some x) ((zs.take len).map (Value.int k)) := by
  rcases Nat.eq_zero_or_pos len with h0 | h0
  · subst h0; exact .inl rfl
  · obtain ⟨b, off, spot⟩ := x
    have h1 := hcell 0 (by omega)
    have hs : spot = none := by simpa [Addr.add] using World.cell?_spot h1
    subst hs
    refine .inr ⟨b, off, rfl, fun j u hu => ?_⟩
    have hj : j < len ∧ j < zs.length := by
      rcases Nat.lt_or_ge j len with h | h
      · exact ⟨h, by omega⟩
      · rw [List.getElem?_eq_none (by rw [List.length_map, List.length_take]; omega)] at hu; cases hu
    have h2 := hcell j hj.2
    have hu' : u = .int k (zs.getD j 0) := by
      rw [List.getElem?_map, List.getElem?_take_of_lt hj.1, List.getElem?_eq_getElem hj.2] at hu
      rw [List.getD_eq_getElem?_getD, List.getElem?_eq_getElem hj.2]
      simpa using hu.symm
    rw [hu', ← h2]
    congr 1
    unfold Addr.add
    split
    · rename_i h; subst h; rfl
    · rfl
section
variable {H : Type} {enc : TypeId × Value → H} {w : World} {base : Nat} {held : Bool}
theorem rows_opened {A : Option Addr} {len cap fuel : Nat} {x : DataW H × List MemPlace} (hu : DataW.trod enc Tryd.prog w base (fun _ => true) held fuel 29 (Value.slice A len cap).cells.toList = some x) :
    ∃ (vs : List Value) (L : List (List Int)), Row w A vs ∧ Rws w none vs L ∧ len = L.length ∧ len ≤ 9223372036854775807 ∧ (∀ xs ∈ L, bytes xs) ∧ ∀ xs ∈ L, xs.length ≤ 9223372036854775807 := by
  rcases Go.Deep.open_int_rows Tryd.underlying29 Tryd.underlying22 Tryd.underlying5 (by kernel_rfl) (by kernel_rfl) hu with ⟨hcs, _⟩ | ⟨a, l, c, AA, LL, CC, Z, hcs, _, hl, hm, _, hr⟩
  · simp [Value.cells] at hcs
    obtain ⟨rfl, rfl, rfl⟩ := hcs
    exact ⟨[], [], .inl rfl, Rws.nil _ _, rfl, by omega, by simp, by simp⟩
  · simp [Value.cells] at hcs
    obtain ⟨rfl, rfl, rfl⟩ := hcs
    refine ⟨(List.range len).map fun r => .slice (AA r) (LL r) (CC r), (List.range len).map fun r => (Z r).take (LL r), ?_, ⟨by simp, fun i xs hi => ?_⟩, by simp, by unfold maxLen at hm; omega, ?_, ?_⟩
    · rcases Nat.eq_zero_or_pos len with h0 | h0
      · subst h0; exact .inl rfl
      · obtain ⟨b, off, spot⟩ := a
        have h1 := (hr 0 (by omega)).1
        have hs : spot = none := by simpa [Addr.add] using World.cell?_spot h1
        subst hs
        refine .inr ⟨b, off, rfl, fun j u hj => ?_⟩
        have hjl : j < len := by
          rcases Nat.lt_or_ge j len with h | h
          · exact h
          · rw [List.getElem?_eq_none (by simpa using h)] at hj; cases hj
        rw [List.getElem?_map, List.getElem?_range hjl] at hj
        simp only [Option.map_some, Option.some.injEq] at hj
        rw [← hj, ← (hr j (by omega)).1]
        congr 1
        unfold Addr.add
        split
        · rename_i h; subst h; rfl
        · rfl
    · have hil : i < len := by
        rcases Nat.lt_or_ge i len with h | h
        · exact h
        · rw [List.getElem?_eq_none (by simpa using h)] at hi; cases hi
      rw [List.getElem?_map, List.getElem?_range hil] at hi
      simp only [Option.map_some, Option.some.injEq] at hi
      subst hi
      obtain ⟨h1, h2, h3, h4, h5, h6, h7⟩ := hr i (by omega)
      have hlen : ((Z i).take (LL i)).length = LL i := by rw [List.length_take]; omega
      refine ⟨AA i, CC i, by rw [List.getElem?_map, List.getElem?_range hil, hlen]; rfl, ?_, by rw [hlen]; exact h2, h6, fun _ _ _ _ => by simp⟩
      cases hA : AA i with
      | none =>
        left
        have h8 := h6 hA
        have h9 : LL i = 0 := by omega
        rw [h9]; rfl
      | some a' => exact row_exact (by omega) (fun c hc => (h7 a' hA).2 c (by omega))
    · intro xs hx
      obtain ⟨r, hr1, rfl⟩ := List.mem_map.1 hx
      have hrl := List.mem_range.1 hr1
      obtain ⟨h1, h2, h3, h4, h5, h6, h7⟩ := hr r (by omega)
      intro z hz
      have := bounds_u8 (h5 z (List.mem_of_mem_take hz))
      omega
    · intro xs hx
      obtain ⟨r, hr1, rfl⟩ := List.mem_map.1 hx
      have hrl := List.mem_range.1 hr1
      obtain ⟨h1, h2, h3, h4, h5, h6, h7⟩ := hr r (by omega)
      rw [List.length_take]
      unfold maxLen at h3
      omega
end
end Go.Proofs.YtnnagjlpkieobaaDoor
