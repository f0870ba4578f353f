/- Check: the program's (8). -/
import Derived.Test.YtgaallkdfcckpaaFT
namespace Go.Proofs.Ytgaallkdfcckpaa
open Go.RowKit Go.Maps Go.Lib Go.Shelf
set_option linter.unusedSimpArgs false
set_option linter.unusedVariables false
def chkS (a b c : Bool) : Int := if !a then 221 else if !b then 231 else if !c then 232 else 0
noncomputable def checkS (L M : List ByteArray) (q : QZ) : Int := chkS (shapeS q) (namedS L M q) (boundedS (q.f.leaves.all lfV) q)
theorem q_cells {q : QZ} {W : World} {Q : Nat} (h : Blk W Q 42 #[.slice q.tA q.tn q.tc, .int .i64 q.frm, .int .i64 q.upto, .int .i64 q.every, .slice q.bA q.bn q.bc, .int .i64 q.f.op, .string q.f.dim, .string q.f.val, .slice q.f.A q.f.n q.f.c, .slice q.hA q.hn q.hc, .int .i64 q.order, .int .i64 q.limit]) : W.cell? ⟨Q, 0, none⟩ = some (.slice q.tA q.tn q.tc) ∧ W.cell? ⟨Q, 1, none⟩ = some (.int .i64 q.frm) ∧ W.cell? ⟨Q, 2, none⟩ = some (.int .i64 q.upto) ∧ W.cell? ⟨Q, 3, none⟩ = some (.int .i64 q.every) ∧ W.cell? ⟨Q, 4, none⟩ = some (.slice q.bA q.bn q.bc) ∧ W.cell? ⟨Q, 5, none⟩ = some (.int .i64 q.f.op) ∧ W.cell? ⟨Q, 6, none⟩ = some (.string q.f.dim) ∧ W.cell? ⟨Q, 7, none⟩ = some (.string q.f.val) ∧ W.cell? ⟨Q, 8, none⟩ = some (.slice q.f.A q.f.n q.f.c) ∧ W.cell? ⟨Q, 9, none⟩ = some (.slice q.hA q.hn q.hc) ∧ W.cell? ⟨Q, 10, none⟩ = some (.int .i64 q.order) ∧ W.cell? ⟨Q, 11, none⟩ = some (.int .i64 q.limit) :=
  ⟨by rw [h.cell 0]; rfl, by rw [h.cell 1]; rfl, by rw [h.cell 2]; rfl, by rw [h.cell 3]; rfl, by rw [h.cell 4]; rfl, by rw [h.cell 5]; rfl, by rw [h.cell 6]; rfl, by rw [h.cell 7]; rfl, by rw [h.cell 8]; rfl, by rw [h.cell 9]; rfl, by rw [h.cell 10]; rfl, by rw [h.cell 11]; rfl⟩
theorem s_cells {A B : Option Addr} {n c m d : Nat} {W : World} {S : Nat} (h : Blk W S 24 #[.slice A n c, .slice B m d]) : W.cell? ⟨S, 0, none⟩ = some (.slice A n c) ∧ W.cell? ⟨S, 1, none⟩ = some (.slice B m d) :=
  ⟨by rw [h.cell 0]; rfl, by rw [h.cell 1]; rfl⟩
end Go.Proofs.Ytgaallkdfcckpaa
