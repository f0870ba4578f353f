/- Whether a filter has what its Op has, and nothing else: the program's answer (59). -/
import Derived.Test.YtgaallkdfcckpaaFE
namespace Go.Proofs.Ytgaallkdfcckpaa
open Go.RowKit Go.Maps Go.Lib
set_option linter.unusedSimpArgs false
set_option linter.unusedVariables false
def opT (op : Int) (n : Nat) (b1 b2 top : Bool) : Bool := if op = 0 then decide (n = 0) && top && b1 && b2 else opB op n b1 b2
def FT.opTop (f : FT) (top : Bool) : Bool := opT f.op f.n (decide (f.dim = ⟨#[]⟩)) (decide (f.val = ⟨#[]⟩)) top
end Go.Proofs.Ytgaallkdfcckpaa
