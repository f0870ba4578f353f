/- Check: the program's (8). -/
import Derived.Test.YtjfkgiflakfjfaaFT
namespace Go.Proofs.Ytjfkgiflakfjfaa
open Go.RowKit Go.Maps Go.Lib Go.Shelf
set_option linter.unusedSimpArgs false
set_option linter.unusedVariables false
def chkS (a b c : Bool) : Int := if !a then 221 else if !b then 231 else if !c then 232 else 0
noncomputable def checkS (L M : List ByteArray) (q : QZ) : Int := chkS (shapeS q) (namedS L M q) (boundedS (q.f.leaves.all lfV) q)
theorem q_cells {q : QZ} {W : World} {Q : Nat} (h : Blk W Q 32 #[.slice q.tA q.tn q.tc, .int .i64 q.frm, .int .i64 q.upto, .int .i64 q.every, .slice q.bA q.bn q.bc, .int .i64 q.f.op, .string q.f.dim, .string q.f.val, .slice q.f.A q.f.n q.f.c, .slice q.hA q.hn q.hc, .int .i64 q.order, .int .i64 q.limit]) : W.cell? ⟨Q, 0, none⟩ = some (.slice q.tA q.tn q.tc) ∧ W.cell? ⟨Q, 1, none⟩ = some (.int .i64 q.frm) ∧ W.cell? ⟨Q, 2, none⟩ = some (.int .i64 q.upto) ∧ W.cell? ⟨Q, 3, none⟩ = some (.int .i64 q.every) ∧ W.cell? ⟨Q, 4, none⟩ = some (.slice q.bA q.bn q.bc) ∧ W.cell? ⟨Q, 5, none⟩ = some (.int .i64 q.f.op) ∧ W.cell? ⟨Q, 6, none⟩ = some (.string q.f.dim) ∧ W.cell? ⟨Q, 7, none⟩ = some (.string q.f.val) ∧ W.cell? ⟨Q, 8, none⟩ = some (.slice q.f.A q.f.n q.f.c) ∧ W.cell? ⟨Q, 9, none⟩ = some (.slice q.hA q.hn q.hc) ∧ W.cell? ⟨Q, 10, none⟩ = some (.int .i64 q.order) ∧ W.cell? ⟨Q, 11, none⟩ = some (.int .i64 q.limit) :=
  ⟨by rw [h.cell 0]; rfl, by rw [h.cell 1]; rfl, by rw [h.cell 2]; rfl, by rw [h.cell 3]; rfl, by rw [h.cell 4]; rfl, by rw [h.cell 5]; rfl, by rw [h.cell 6]; rfl, by rw [h.cell 7]; rfl, by rw [h.cell 8]; rfl, by rw [h.cell 9]; rfl, by rw [h.cell 10]; rfl, by rw [h.cell 11]; rfl⟩
theorem s_cells {A B : Option Addr} {n c m d : Nat} {W : World} {S : Nat} (h : Blk W S 24 #[.slice A n c, .slice B m d]) : W.cell? ⟨S, 0, none⟩ = some (.slice A n c) ∧ W.cell? ⟨S, 1, none⟩ = some (.slice B m d) :=
  ⟨by rw [h.cell 0]; rfl, by rw [h.cell 1]; rfl⟩
set_option maxRecDepth 100000 in
set_option maxHeartbeats 32000000 in
theorem check_any (A B : Option Addr) (n c m d : Nat) (L M : List ByteArray) (q : QZ) (w : World) (hL : StrsIn w A n c L) (hM : StrsIn w B m d M) (hq : QIn w q) :
    Calls Try.prog 8 #[.agg #[.slice A n c, .slice B m d], .agg #[.slice q.tA q.tn q.tc, .int .i64 q.frm, .int .i64 q.upto, .int .i64 q.every, .slice q.bA q.bn q.bc, .int .i64 q.f.op, .string q.f.dim, .string q.f.val, .slice q.f.A q.f.n q.f.c, .slice q.hA q.hn q.hc, .int .i64 q.order, .int .i64 q.limit]] w fun e w' => e = .returned (.int .i64 (checkS L M q)) ∧ Below w.heap.size w w' := by
  obtain ⟨w1, hw1⟩ : ∃ w1, w1 = (w.alloc (.cells #[.slice A n c, .slice B m d] 24)).alloc (.cells #[.slice q.tA q.tn q.tc, .int .i64 q.frm, .int .i64 q.upto, .int .i64 q.every, .slice q.bA q.bn q.bc, .int .i64 q.f.op, .string q.f.dim, .string q.f.val, .slice q.f.A q.f.n q.f.c, .slice q.hA q.hn q.hc, .int .i64 q.order, .int .i64 q.limit] 32) := ⟨_, rfl⟩
  have hb1 : Below w.heap.size w w1 := by rw [hw1]; exact bpush (bpush (Below.refl _ _) _) _
  have hSB : Blk w1 w.heap.size 24 #[.slice A n c, .slice B m d] := by
    rw [hw1]; exact (Blk.new w 24 #[.slice A n c, .slice B m d]).below (bpush (Below.refl _ _) _)
  have hQB : Blk w1 (w.heap.size + 1) 32 #[.slice q.tA q.tn q.tc, .int .i64 q.frm, .int .i64 q.upto, .int .i64 q.every, .slice q.bA q.bn q.bc, .int .i64 q.f.op, .string q.f.dim, .string q.f.val, .slice q.f.A q.f.n q.f.c, .slice q.hA q.hn q.hc, .int .i64 q.order, .int .i64 q.limit] := by
    have := Blk.new (w.alloc (.cells #[.slice A n c, .slice B m d] 24)) 32 #[.slice q.tA q.tn q.tc, .int .i64 q.frm, .int .i64 q.upto, .int .i64 q.every, .slice q.bA q.bn q.bc, .int .i64 q.f.op, .string q.f.dim, .string q.f.val, .slice q.f.A q.f.n q.f.c, .slice q.hA q.hn q.hc, .int .i64 q.order, .int .i64 q.limit]
    rw [hw1]; simpa using this
  obtain ⟨S, hSe⟩ : ∃ S, S = w.heap.size := ⟨_, rfl⟩
  obtain ⟨Q, hQe⟩ : ∃ Q, Q = w.heap.size + 1 := ⟨_, rfl⟩
  rw [← hSe] at hSB
  rw [← hQe] at hQB
  have HB1 := Lib.hid hb1
  have HSB := Lib.hid hSB
  have HQB := Lib.hid hQB
  have HW1 := Lib.hid hw1
  have HSE := Lib.hid hSe
  have HQE := Lib.hid hQe
  have HX1 := Lib.hid (fun W (hW : Below w1.heap.size w1 W) => shaped_any q W (hq.keep (Nat.le_refl _) (bthen hb1 hW)))
  have HX2 := Lib.hid (fun W (hW : Below w1.heap.size w1 W) => named_any A B n c m d L M q W (hL.keep (Nat.le_refl _) (bthen hb1 hW)) (hM.keep (Nat.le_refl _) (bthen hb1 hW)) (hq.keep (Nat.le_refl _) (bthen hb1 hW)))
  have HX3 := Lib.hid (fun W (hW : Below w1.heap.size w1 W) => bounded_any q W (hq.keep (Nat.le_refl _) (bthen hb1 hW)))
  obtain ⟨oo, hoo⟩ : ∃ o, o = checkS L M q := ⟨_, rfl⟩
  rw [← hoo]
  unfold checkS at hoo
  obtain ⟨r1, hr1⟩ : ∃ r, r = shapeS q := ⟨_, rfl⟩
  obtain ⟨r2, hr2⟩ : ∃ r, r = namedS L M q := ⟨_, rfl⟩
  obtain ⟨r3, hr3⟩ : ∃ r, r = boundedS (q.f.leaves.all lfV) q := ⟨_, rfl⟩
  rw [← hr1] at HX1 hoo
  rw [← hr2] at HX2 hoo
  rw [← hr3] at HX3 hoo
  have HOO := Lib.hid hoo
  obtain ⟨c0, c1, c2, c3, c4, c5, c6, c7, c8, c9, c10, c11⟩ := q_cells hQB
  clear hw1 hb1 hSB hQB hL hM hq hSe hQe hoo hr1 hr2 hr3
  go_enter Try.func8, Try.ntmps8
  go_upto_region 1 with fail
  rw [← HW1.out, ← HQE.out, ← HSE.out]
  cases r1 with
  | false =>
    have HE := Lib.hid (show oo = 221 from HOO.out)
    go_wp2_with (go_at_call 19; refine (HX1.out _ (Below.refl _ _)).mono ?_; rintro e w2 ⟨rfl, hb⟩; have HB2 := Lib.hid hb; clear hb)
    go_ret
    exact ⟨by rw [HE.out]; rfl, bthen HB1.out HB2.out⟩
  | true =>
  go_upto_region 3 with (go_at_call 19; refine (HX1.out _ (Below.refl _ _)).mono ?_; rintro e w2 ⟨rfl, hb⟩; have HB2 := Lib.hid hb; clear hb)
  clear c0 c1 c2 c3 c4 c5 c6 c7 c8 c9 c10 c11
  obtain ⟨c0, c1, c2, c3, c4, c5, c6, c7, c8, c9, c10, c11⟩ := q_cells (HQB.out.below HB2.out)
  obtain ⟨s0, s1⟩ := s_cells (HSB.out.below HB2.out)
  cases r2 with
  | false =>
    have HE := Lib.hid (show oo = 231 from HOO.out)
    go_wp2_with (go_at_call 20; refine (HX2.out _ HB2.out).mono ?_; rintro e w3 ⟨rfl, hb⟩; have HB3 := Lib.hid (bthen HB2.out hb); clear hb)
    go_ret
    exact ⟨by rw [HE.out]; rfl, bthen HB1.out HB3.out⟩
  | true =>
  go_upto_region 5 with (go_at_call 20; refine (HX2.out _ HB2.out).mono ?_; rintro e w3 ⟨rfl, hb⟩; have HB3 := Lib.hid (bthen HB2.out hb); clear hb)
  clear c0 c1 c2 c3 c4 c5 c6 c7 c8 c9 c10 c11 s0 s1
  obtain ⟨c0, c1, c2, c3, c4, c5, c6, c7, c8, c9, c10, c11⟩ := q_cells (HQB.out.below HB3.out)
  cases r3 with
  | false =>
    have HE := Lib.hid (show oo = 232 from HOO.out)
    go_wp2_with (go_at_call 21; refine (HX3.out _ HB3.out).mono ?_; rintro e w4 ⟨rfl, hb⟩; have HB4 := Lib.hid (bthen HB3.out hb); clear hb)
    go_ret
    exact ⟨by rw [HE.out]; rfl, bthen HB1.out HB4.out⟩
  | true =>
    have HE := Lib.hid (show oo = 0 from HOO.out)
    go_wp2_with (go_at_call 21; refine (HX3.out _ HB3.out).mono ?_; rintro e w4 ⟨rfl, hb⟩; have HB4 := Lib.hid (bthen HB3.out hb); clear hb)
    go_ret
    exact ⟨by rw [HE.out]; rfl, bthen HB1.out HB4.out⟩
end Go.Proofs.Ytjfkgiflakfjfaa
