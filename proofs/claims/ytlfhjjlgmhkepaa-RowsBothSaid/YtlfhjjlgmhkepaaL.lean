/- Right. -/
import Derived.Test.YtlfhjjlgmhkepaaK
namespace Go.Proofs.Ytlfhjjlgmhkepaa
open Go.RowKit
set_option linter.unusedSimpArgs false
set_option linter.unusedVariables false
def rightP (L M : List ByteArray) : Prop := 1 ≤ L.length ∧ L.length ≤ 6 ∧ M.length ≤ 4 ∧ namesP (L ++ M)
end Go.Proofs.Ytlfhjjlgmhkepaa
