/- The live question. -/
import Derived.Test.YtkfcpmmiimpkbaaRL
namespace Go.Proofs.Ytkfcpmmiimpkbaa
open Go.RowKit
set_option linter.unusedSimpArgs false
set_option linter.unusedVariables false
def rowX (s : ByteArray) (n : Int) : RV := ⟨4, [s], 1, [(n, n, n)]⟩
theorem folds_three : foldL [rowX ⟨#[]⟩ 0, rowX ⟨#[118]⟩ 7, rowX ⟨#[118]⟩ (-2)] = ([rowX ⟨#[]⟩ 0, ⟨4, [⟨#[118]⟩], 2, [(5, -2, 7)]⟩], 0) := by kernel_rfl
theorem sorts_three : SortsTo [rowX ⟨#[118]⟩ 7, rowX ⟨#[118]⟩ (-2), rowX ⟨#[]⟩ 0] [rowX ⟨#[]⟩ 0, rowX ⟨#[118]⟩ 7, rowX ⟨#[118]⟩ (-2)] := by
  have h1 : cmpV (rowX ⟨#[]⟩ 0) (rowX ⟨#[118]⟩ 7) = -1 := by decide +kernel
  have h2 : ∀ m n, cmpV (rowX ⟨#[118]⟩ m) (rowX ⟨#[118]⟩ n) = 0 := fun m n => cmpV_zero.2 ⟨rfl, rfl⟩
  have h3 : ∀ m, cmpV (rowX ⟨#[]⟩ 0) (rowX ⟨#[118]⟩ m) = -1 := fun m => (cmpV_right (h2 m 7) _).trans h1
  constructor
  · refine List.Pairwise.cons ?_ (List.Pairwise.cons ?_ (List.Pairwise.cons ?_ List.Pairwise.nil))
    · intro b hb
      simp only [List.mem_cons, List.not_mem_nil, or_false] at hb
      rcases hb with rfl | rfl <;> rw [h3] <;> decide
    · intro b hb
      rw [List.mem_singleton.1 hb, h2]; exact Int.le_refl _
    · intro b hb; cases hb
  · intro k
    simp only [List.filter_cons, List.filter_nil]
    by_cases e1 : keyV k (rowX ⟨#[]⟩ 0) = true
    · have e2 : ∀ m, keyV k (rowX ⟨#[118]⟩ m) = false := fun m => by
        rw [Bool.eq_false_iff, ne_eq, keyV_true, cmpV_left (keyV_true.1 e1), h3]; decide
      simp [e1, e2]
    · simp [e1]
end Go.Proofs.Ytkfcpmmiimpkbaa
