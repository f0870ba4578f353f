/- Where a text stands in a list. -/
import Derived.Test.YtlfhjjlgmhkepaaB
namespace Go.Proofs.Ytlfhjjlgmhkepaa
open Go.RowKit
set_option linter.unusedSimpArgs false
set_option linter.unusedVariables false
theorem str_ne {a b : ByteArray} (h : a ≠ b) : (a.toList == b.toList) = false := by
  rw [ByteArray.toList_eq, ByteArray.toList_eq, beq_eq_false_iff_ne]
  exact fun e => h (by cases a; cases b; congr 1; exact Array.toList_inj.1 e)
/-- A text's first place in a list. -/
def FirstAt (L : List ByteArray) (s : ByteArray) : Option Nat → Prop
  | none => ∀ (j : Nat) (h : j < L.length), L[j] ≠ s
  | some i => ∃ h : i < L.length, L[i] = s ∧ ∀ (j : Nat) (hj : j < i), L[j] ≠ s
def idxO : Option Nat → Int
  | none => -1
  | some i => i
theorem FirstAt.uniq {L : List ByteArray} {s : ByteArray} {o p : Option Nat} (h : FirstAt L s o) (k : FirstAt L s p) : o = p := by
  cases o with
  | none => cases p with
    | none => rfl
    | some j => obtain ⟨hj, e, _⟩ := k; exact absurd e (h j hj)
  | some i => cases p with
    | none => obtain ⟨hi, e, _⟩ := h; exact absurd e (k i hi)
    | some j =>
      obtain ⟨hi, e1, n1⟩ := h
      obtain ⟨hj, e2, n2⟩ := k
      rcases Nat.lt_trichotomy i j with h3 | rfl | h3
      · exact absurd e1 (n2 i h3)
      · rfl
      · exact absurd e2 (n1 j h3)
end Go.Proofs.Ytlfhjjlgmhkepaa
