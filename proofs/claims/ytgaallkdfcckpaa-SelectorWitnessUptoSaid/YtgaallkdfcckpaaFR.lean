/- Whether a query's values and numbers are such as they may be: the program's bounded (21) and the document's types (24). -/
import Derived.Test.YtgaallkdfcckpaaFQ
import Derived.Deep.QuietTactic
import Derived.BigQuiet
namespace Go.Proofs.Ytgaallkdfcckpaa
open Go.RowKit Go.Maps Go.Lib Go.Shelf
set_option linter.unusedSimpArgs false
set_option linter.unusedVariables false
noncomputable def lfV (x : FT) : Bool := valB x.val
noncomputable def apartB (L : List ByteArray) : Bool := @decide (apartP L) (Classical.propDecidable _)
theorem apartB_iff (L : List ByteArray) : apartB L = true ↔ apartP L := by unfold apartB; exact @decide_eq_true_iff _ (Classical.propDecidable _)
noncomputable def granB (e : Int) : Bool := decide (e = 0) || decide (okGran e)
noncomputable def numsS (v : Bool) (q : QZ) : Bool := v && decide (0 ≤ q.frm) && decide (q.frm < q.upto) && decide (q.upto ≤ 1099511627776) && granB q.every && decide (-(q.tn : Int) ≤ q.order) && decide (q.order ≤ (q.tn : Int)) && decide (0 ≤ q.limit) && decide (q.limit ≤ 1000)
noncomputable def boundedS (v : Bool) (q : QZ) : Bool := apartB q.BY && numsS v q
end Go.Proofs.Ytgaallkdfcckpaa
