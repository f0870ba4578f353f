/- filterShaped (37): its closure (58) that calls itself through a variable. -/
import Derived.Test.YtgaallkdfcckpaaFL
namespace Go.Proofs.Ytgaallkdfcckpaa
open Go.RowKit Go.Maps Go.Lib
set_option linter.unusedSimpArgs false
set_option linter.unusedVariables false
end Go.Proofs.Ytgaallkdfcckpaa
