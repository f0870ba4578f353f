/- A row's aggs: whether one is not right (the code's). -/
import Derived.Test.YtkfcpmmiimpkbaaQP
namespace Go.Proofs.Ytkfcpmmiimpkbaa
open Go.RowKit
set_option linter.unusedSimpArgs false
set_option linter.unusedVariables false
/-- A right agg. -/
def okA (a : Ag) : Prop := rightB a.1 a.2.1 a.2.2 = true
instance (a : Ag) : Decidable (okA a) := by unfold okA; infer_instance
end Go.Proofs.Ytkfcpmmiimpkbaa
