/- Value. -/
import Derived.Test.YtgaallkdfcckpaaFJ
namespace Go.Proofs.Ytgaallkdfcckpaa
open Go.RowKit
set_option linter.unusedSimpArgs false
set_option linter.unusedVariables false
end Go.Proofs.Ytgaallkdfcckpaa
