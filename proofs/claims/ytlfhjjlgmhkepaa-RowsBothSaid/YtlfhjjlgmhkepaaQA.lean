/- What the walks of this seat say of a slice of cells, and plain facts. -/
import Derived.Test.YtlfhjjlgmhkepaaZ
import Derived.WalkKit
import Derived.ProofKit
import Derived.OpenShut
import Derived.Below
import Derived.Lib.Hide
import Derived.WalkLawsBesides
namespace Go.Proofs.Ytlfhjjlgmhkepaa
open Go.RowKit

def fit1 (n : Int) : Bool := decide (-4611686018427387904 ≤ n) && decide (n ≤ 4611686018427387904)
theorem fit1_lo {n : Int} (h : n < -4611686018427387904) : fit1 n = false := by unfold fit1; simp; omega
theorem fit1_hi {n : Int} (h : 4611686018427387904 < n) : fit1 n = false := by unfold fit1; simp; omega
theorem fit1_in {n : Int} (h : -4611686018427387904 ≤ n) (h' : n ≤ 4611686018427387904) : fit1 n = true := by unfold fit1; simp; omega
theorem fit1_iff {n : Int} : fit1 n = true ↔ -4611686018427387904 ≤ n ∧ n ≤ 4611686018427387904 := by unfold fit1; simp

theorem fits_no (zs : List Int) (k : Nat) (hk : k < zs.length) (h : fit1 zs[k] = false) : zs.all fit1 = false := by
  rw [List.all_eq_false]; exact ⟨zs[k], List.getElem_mem _, by simp [h]⟩
theorem fits_yes (zs : List Int) (h : ∀ j (hj : j < zs.length), fit1 zs[j] = true) : zs.all fit1 = true := by
  rw [List.all_eq_true]; intro x hx; obtain ⟨j, hj, rfl⟩ := List.getElem_of_mem hx; exact h j hj
end Go.Proofs.Ytlfhjjlgmhkepaa
