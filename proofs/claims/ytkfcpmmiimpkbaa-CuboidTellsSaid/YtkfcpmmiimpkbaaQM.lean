/- Are two rows one (the code's). -/
import Derived.Test.YtkfcpmmiimpkbaaQL
namespace Go.Proofs.Ytkfcpmmiimpkbaa
open Go.RowKit
set_option linter.unusedSimpArgs false
set_option linter.unusedVariables false
theorem cmpI_zero {a b : Int} : cmpI a b = 0 ↔ a = b := by
  unfold cmpI
  constructor
  · intro h
    by_cases h1 : a < b
    · rw [if_pos h1] at h; cases h
    · rw [if_neg h1] at h
      by_cases h2 : b < a
      · rw [if_pos h2] at h; cases h
      · omega
  · rintro rfl; rw [if_neg (Int.lt_irrefl _), if_neg (Int.lt_irrefl _)]
theorem cmpL_zero : ∀ (L M : List ByteArray), cmpL L M = 0 ↔ L = M := by
  intro L
  induction L with
  | nil => intro M; cases M with
    | nil => simp [cmpL]
    | cons b M => simp [cmpL]
  | cons a L ih =>
    intro M
    cases M with
    | nil => simp [cmpL]
    | cons b M =>
      rw [cmpL]
      by_cases h : cmpT a b = 0
      · rw [if_pos h, ih M, cmpT_zero.1 h]; simp
      · rw [if_neg h]
        constructor
        · intro k; exact absurd k h
        · intro k; exact absurd (cmpT_zero.2 (List.cons.inj k).1) h
theorem cmpK_zero (t u : Int) (L M : List ByteArray) : cmpK t u L M = 0 ↔ L = M ∧ t = u := by
  unfold cmpK
  by_cases h : cmpI t u = 0
  · rw [if_pos h, cmpL_zero]; simp [cmpI_zero.1 h]
  · rw [if_neg h]
    constructor
    · intro k; exact absurd k h
    · intro k; exact absurd (cmpI_zero.2 k.2) h
end Go.Proofs.Ytkfcpmmiimpkbaa
