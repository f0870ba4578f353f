/- Whether a query is built as one: the program's shaped (19) and its closures (33, 34). -/
import Derived.Test.YtgaallkdfcckpaaFM
namespace Go.Proofs.Ytgaallkdfcckpaa
open Go.RowKit Go.Maps Go.Lib Go.Shelf
set_option linter.unusedSimpArgs false
set_option linter.unusedVariables false
def tmOk (t : Int × ByteArray) : Bool := termB t.1 (decide (t.2 = ⟨#[]⟩))
def hvOk (h : Int × ByteArray × Int × Int) : Bool := termB h.1 (decide (h.2.1 = ⟨#[]⟩)) && decide (-1 ≤ h.2.2.1) && decide (h.2.2.1 ≤ 1) && decide (-4611686018427387904 ≤ h.2.2.2) && decide (h.2.2.2 ≤ 4611686018427387904)
/-- The query's box. -/
def qc (q : QZ) : Array Value := #[.slice q.tA q.tn q.tc, .int .i64 q.frm, .int .i64 q.upto, .int .i64 q.every, .slice q.bA q.bn q.bc, .int .i64 q.f.op, .string q.f.dim, .string q.f.val, .slice q.f.A q.f.n q.f.c, .slice q.hA q.hn q.hc, .int .i64 q.order, .int .i64 q.limit]
def shapeS (q : QZ) : Bool := decide (1 ≤ q.tn) && decide (q.tn ≤ 8) && decide (q.bn ≤ 6) && decide (q.hn ≤ 8) && q.T.all tmOk && q.H.all hvOk && q.f.shp 1
end Go.Proofs.Ytgaallkdfcckpaa
