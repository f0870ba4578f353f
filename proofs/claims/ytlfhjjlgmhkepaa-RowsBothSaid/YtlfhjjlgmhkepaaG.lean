/- Contains; whether no two texts are alike. -/
import Derived.Test.YtlfhjjlgmhkepaaF
namespace Go.Proofs.Ytlfhjjlgmhkepaa
open Go.RowKit
set_option linter.unusedSimpArgs false
set_option linter.unusedVariables false
theorem FirstAt.mem {L : List ByteArray} {s : ByteArray} {o : Option Nat} (h : FirstAt L s o) : o.isSome = true ↔ s ∈ L := by
  cases o with
  | none => exact ⟨fun e => (by cases e), fun hm => by obtain ⟨j, hj, e⟩ := List.mem_iff_getElem.1 hm; exact absurd e (h j hj)⟩
  | some i => obtain ⟨hi, e, _⟩ := h; exact ⟨fun _ => e ▸ List.getElem_mem hi, fun _ => rfl⟩
theorem Row.front {w : World} {A : Option Addr} {L : List ByteArray} (h : Row w A (texts L)) (k : Nat) : Row w A (texts (L.take k)) := by
  rcases h with h | ⟨b, off, rfl, hc⟩
  · left
    have : L = [] := List.map_eq_nil_iff.1 h
    subst this; simp [texts]
  · refine .inr ⟨b, off, rfl, fun j u hu => hc j u ?_⟩
    unfold texts at hu ⊢
    rw [List.map_take] at hu
    rw [List.getElem?_take] at hu
    split at hu
    · exact hu
    · cases hu
/-- No two texts are alike. -/
def apartP (L : List ByteArray) : Prop := ∀ (i j : Nat) (hij : i < j) (h : j < L.length), L[i]'(Nat.lt_trans hij h) ≠ L[j]
end Go.Proofs.Ytlfhjjlgmhkepaa
