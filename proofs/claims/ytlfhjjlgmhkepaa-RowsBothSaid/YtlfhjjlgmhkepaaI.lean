/- names. -/
import Derived.Test.YtlfhjjlgmhkepaaH
namespace Go.Proofs.Ytlfhjjlgmhkepaa
open Go.RowKit
set_option linter.unusedSimpArgs false
set_option linter.unusedVariables false
end Go.Proofs.Ytlfhjjlgmhkepaa
