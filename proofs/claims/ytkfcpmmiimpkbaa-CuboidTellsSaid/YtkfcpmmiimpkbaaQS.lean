/- Is a row right (the code's). -/
import Derived.Test.YtkfcpmmiimpkbaaQR
namespace Go.Proofs.Ytkfcpmmiimpkbaa
open Go.RowKit
set_option linter.unusedSimpArgs false
set_option linter.unusedVariables false
/-- A right row of a schema of so many dimensions and metrics. -/
def rowOk (p q : Nat) (u j : Int) (M : List ByteArray) (Y : List Ag) : Prop := M.length = p ∧ Y.length = q ∧ 0 ≤ u ∧ u ≤ 1099511627776 ∧ 1 ≤ j ∧ j ≤ 1048576 ∧ (∀ s ∈ M, valP s) ∧ (∀ a ∈ Y, okA a)
end Go.Proofs.Ytkfcpmmiimpkbaa
