/- ContainsFunc over filters, terms and havings, whatever closure. -/
import Derived.Test.YtgaallkdfcckpaaFK
import Derived.Shelf.Abstract
namespace Go.Proofs.Ytgaallkdfcckpaa
open Go.RowKit Go.Maps Go.Lib Go.Shelf
set_option linter.unusedSimpArgs false
set_option linter.unusedVariables false
def AnyPost (w : World) (r : Bool) (e : Ending) (w' : World) : Prop := (∃ v : Int, e = .returned (.int .i64 v) ∧ (r = true → 0 ≤ v) ∧ (r = false → v = -1)) ∧ Below w.heap.size w w'
end Go.Proofs.Ytgaallkdfcckpaa
