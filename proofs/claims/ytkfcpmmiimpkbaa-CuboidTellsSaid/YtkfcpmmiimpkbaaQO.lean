/- Is a list of rows sorted: on both sides. -/
import Derived.Test.YtkfcpmmiimpkbaaQN
namespace Go.Proofs.Ytkfcpmmiimpkbaa
open Go.RowKit
set_option linter.unusedSimpArgs false
set_option linter.unusedVariables false
end Go.Proofs.Ytkfcpmmiimpkbaa
