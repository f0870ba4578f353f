/- names: all of them names, no two alike. -/
import Derived.Test.YtlfhjjlgmhkepaaI
namespace Go.Proofs.Ytlfhjjlgmhkepaa
open Go.RowKit
set_option linter.unusedSimpArgs false
set_option linter.unusedVariables false
def namesP (L : List ByteArray) : Prop := (∀ s ∈ L, nameP s) ∧ apartP L
end Go.Proofs.Ytlfhjjlgmhkepaa
