/- Are two lists of rows one (the code's). -/
import Derived.Test.YtkfcpmmiimpkbaaQM
namespace Go.Proofs.Ytkfcpmmiimpkbaa
open Go.RowKit
set_option linter.unusedSimpArgs false
set_option linter.unusedVariables false
end Go.Proofs.Ytkfcpmmiimpkbaa
