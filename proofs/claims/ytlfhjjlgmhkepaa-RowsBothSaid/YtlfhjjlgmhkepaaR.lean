/- Subset. -/
import Derived.Test.YtlfhjjlgmhkepaaN
namespace Go.Proofs.Ytlfhjjlgmhkepaa
open Go.RowKit
set_option linter.unusedSimpArgs false
set_option linter.unusedVariables false
theorem texts_drop {w : World} {A : Option Addr} {L : List ByteArray} (h : Row w A (texts L)) (k : Nat) : Row w (A.map (·.add k)) (texts (L.drop k)) := by
  rcases h with h | ⟨b, off, rfl, hc⟩
  · have : L = [] := List.map_eq_nil_iff.1 h
    subst this; exact .inl (by simp [texts])
  · have e : (⟨b, off, none⟩ : Addr).add k = ⟨b, off + k, none⟩ := by
      unfold Addr.add; split
      · rename_i h; subst h; rfl
      · rfl
    refine .inr ⟨b, off + k, by simp [e], fun j u hu => ?_⟩
    rw [Nat.add_assoc]
    refine hc (k + j) u ?_
    unfold texts at hu ⊢
    rw [List.map_drop, List.getElem?_drop] at hu
    exact hu
theorem sub_none {s : ByteArray} {l M : List ByteArray} (h : FirstAt M s none) : ¬ (s :: l).Sublist M := fun k => by
  have hm : s ∈ M := k.subset (List.mem_cons_self ..)
  obtain ⟨j, hj, e⟩ := List.mem_iff_getElem.1 hm
  exact h j hj e
theorem sub_some : ∀ {M : List ByteArray} {s : ByteArray} {l : List ByteArray} {i : Nat}, FirstAt M s (some i) → ((s :: l).Sublist M ↔ l.Sublist (M.drop (i + 1))) := by
  intro M
  induction M with
  | nil => intro s l i h; obtain ⟨hi, _⟩ := h; simp at hi
  | cons y M ih =>
    intro s l i h
    obtain ⟨hi, e, hn⟩ := h
    cases i with
    | zero =>
      simp at e
      subst e
      simp
    | succ i =>
      have hy : y ≠ s := by have := hn 0 (by omega); simpa using this
      have hf : FirstAt M s (some i) := ⟨by simpa using hi, by simpa using e, fun j hj => by have := hn (j + 1) (by omega); simpa using this⟩
      rw [List.drop_succ_cons, ← ih hf]
      constructor
      · intro k
        cases k with
        | cons _ k => exact k
        | cons_cons _ k => exact absurd rfl hy
      · exact fun k => k.cons _
def subsetP (L M : List ByteArray) : Prop := namesP L ∧ L.Sublist M
theorem cut_case {w : World} {A : Option Addr} {n c : Nat} {L : List ByteArray} (h : Row w A (texts L)) (hn : n = L.length) (hnc : n ≤ c) (k : Nat) (hk : k ≤ n) :
    Row w (if c = k then A else A.map (·.add k)) (texts (L.drop k)) := by
  split
  · rename_i e
    left
    rw [List.drop_of_length_le (by omega)]; rfl
  · exact texts_drop h k
end Go.Proofs.Ytlfhjjlgmhkepaa
