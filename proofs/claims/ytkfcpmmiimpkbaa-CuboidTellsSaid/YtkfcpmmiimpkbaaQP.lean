/- A row's values: whether one is no value (the code's). -/
import Derived.Test.YtkfcpmmiimpkbaaQO
namespace Go.Proofs.Ytkfcpmmiimpkbaa
open Go.RowKit
set_option linter.unusedSimpArgs false
set_option linter.unusedVariables false
end Go.Proofs.Ytkfcpmmiimpkbaa
