/- A query; a group's time: the program's Bucket (13) and the document's (14). -/
import Derived.Test.YtjfkgiflakfjfaaFG
namespace Go.Proofs.Ytjfkgiflakfjfaa
open Go.RowKit Go.Maps Go.Lib
set_option linter.unusedSimpArgs false
set_option linter.unusedVariables false
structure QZ where
  tA : Option Addr
  tn : Nat
  tc : Nat
  T : List (Int × ByteArray)
  frm : Int
  upto : Int
  every : Int
  bA : Option Addr
  bn : Nat
  bc : Nat
  BY : List ByteArray
  f : FT
  hA : Option Addr
  hn : Nat
  hc : Nat
  H : List (Int × ByteArray × Int × Int)
  order : Int
  limit : Int
def bktS (frm every t : Int) : Int := if every = 0 then frm else flr t every
set_option maxRecDepth 100000 in
set_option maxHeartbeats 8000000 in
theorem bkt_any (q : QZ) (t : Int) (w : World) (hg : q.every = 0 ∨ okGran q.every) (ht : 0 ≤ t ∧ t ≤ 1099511627776) : Calls Try.prog 13 #[.agg #[.slice q.tA q.tn q.tc, .int .i64 q.frm, .int .i64 q.upto, .int .i64 q.every, .slice q.bA q.bn q.bc, .int .i64 q.f.op, .string q.f.dim, .string q.f.val, .slice q.f.A q.f.n q.f.c, .slice q.hA q.hn q.hc, .int .i64 q.order, .int .i64 q.limit], .int .i64 t] w fun e w' => e = .returned (.int .i64 (bktS q.frm q.every t)) ∧ Below w.heap.size w w' := by
  obtain ⟨w1, hw1⟩ : ∃ w1, w1 = w.alloc (.cells #[.slice q.tA q.tn q.tc, .int .i64 q.frm, .int .i64 q.upto, .int .i64 q.every, .slice q.bA q.bn q.bc, .int .i64 q.f.op, .string q.f.dim, .string q.f.val, .slice q.f.A q.f.n q.f.c, .slice q.hA q.hn q.hc, .int .i64 q.order, .int .i64 q.limit] 32) := ⟨_, rfl⟩
  have HB := Lib.hid (show Below w.heap.size w w1 by rw [hw1]; exact bpush (Below.refl _ _) _)
  have hK : Blk w1 w.heap.size 32 #[.slice q.tA q.tn q.tc, .int .i64 q.frm, .int .i64 q.upto, .int .i64 q.every, .slice q.bA q.bn q.bc, .int .i64 q.f.op, .string q.f.dim, .string q.f.val, .slice q.f.A q.f.n q.f.c, .slice q.hA q.hn q.hc, .int .i64 q.order, .int .i64 q.limit] := by rw [hw1]; exact Blk.new _ _ _
  obtain ⟨fr, hfr⟩ : ∃ x, x = q.frm := ⟨_, rfl⟩
  obtain ⟨ev, hev⟩ : ∃ x, x = q.every := ⟨_, rfl⟩
  have c1 : w1.cell? ⟨w.heap.size, 1, none⟩ = some (.int .i64 fr) := by rw [hK.cell 1, hfr]; rfl
  have c3 : w1.cell? ⟨w.heap.size, 3, none⟩ = some (.int .i64 ev) := by rw [hK.cell 3, hev]; rfl
  rw [← hfr, ← hev]
  rw [← hev] at hg
  rw [← hfr, ← hev] at hw1
  have HGR := Lib.hid hg
  have HW1 := Lib.hid hw1
  clear hw1 hK hfr hev hg
  go_enter Try.func13, Try.ntmps13
  go_upto_region 1 with fail
  rw [← HW1.out]
  by_cases h0 : ev = 0
  · subst h0
    go_wp2_with fail
    go_ret
    exact ⟨rfl, HB.out⟩
  · have h0b : (ev == 0) = false := by simp [h0]
    have HF := Lib.hid (Floor_good t ev w1 ⟨HGR.out.resolve_left h0, by unfold okTime; omega⟩)
    have HE := Lib.hid (show bktS fr ev t = flr t ev by unfold bktS; rw [if_neg h0])
    go_wp2_with (go_at_call 31; refine HF.out.mono ?_; rintro e w2 ⟨rfl, rfl⟩)
    go_ret
    exact ⟨by rw [HE.out]; rfl, HB.out⟩
set_option maxRecDepth 100000 in
set_option maxHeartbeats 8000000 in
theorem rbkt_any (q : QZ) (t : Int) (w : World) (hg : q.every = 0 ∨ okGran q.every) (ht : 0 ≤ t ∧ t ≤ 1099511627776) : Calls Try.prog 14 #[.agg #[.slice q.tA q.tn q.tc, .int .i64 q.frm, .int .i64 q.upto, .int .i64 q.every, .slice q.bA q.bn q.bc, .int .i64 q.f.op, .string q.f.dim, .string q.f.val, .slice q.f.A q.f.n q.f.c, .slice q.hA q.hn q.hc, .int .i64 q.order, .int .i64 q.limit], .int .i64 t] w fun e w' => e = .returned (.int .i64 (bktS q.frm q.every t)) ∧ Below w.heap.size w w' := by
  obtain ⟨w1, hw1⟩ : ∃ w1, w1 = w.alloc (.cells #[.slice q.tA q.tn q.tc, .int .i64 q.frm, .int .i64 q.upto, .int .i64 q.every, .slice q.bA q.bn q.bc, .int .i64 q.f.op, .string q.f.dim, .string q.f.val, .slice q.f.A q.f.n q.f.c, .slice q.hA q.hn q.hc, .int .i64 q.order, .int .i64 q.limit] 32) := ⟨_, rfl⟩
  have HB := Lib.hid (show Below w.heap.size w w1 by rw [hw1]; exact bpush (Below.refl _ _) _)
  have hK : Blk w1 w.heap.size 32 #[.slice q.tA q.tn q.tc, .int .i64 q.frm, .int .i64 q.upto, .int .i64 q.every, .slice q.bA q.bn q.bc, .int .i64 q.f.op, .string q.f.dim, .string q.f.val, .slice q.f.A q.f.n q.f.c, .slice q.hA q.hn q.hc, .int .i64 q.order, .int .i64 q.limit] := by rw [hw1]; exact Blk.new _ _ _
  obtain ⟨fr, hfr⟩ : ∃ x, x = q.frm := ⟨_, rfl⟩
  obtain ⟨ev, hev⟩ : ∃ x, x = q.every := ⟨_, rfl⟩
  have c1 : w1.cell? ⟨w.heap.size, 1, none⟩ = some (.int .i64 fr) := by rw [hK.cell 1, hfr]; rfl
  have c3 : w1.cell? ⟨w.heap.size, 3, none⟩ = some (.int .i64 ev) := by rw [hK.cell 3, hev]; rfl
  rw [← hfr, ← hev]
  rw [← hev] at hg
  rw [← hfr, ← hev] at hw1
  have HGR := Lib.hid hg
  have HW1 := Lib.hid hw1
  clear hw1 hK hfr hev hg
  go_enter Try.func14, Try.ntmps14
  go_upto_region 1 with fail
  rw [← HW1.out]
  by_cases h0 : ev = 0
  · subst h0
    go_wp2_with fail
    go_ret
    exact ⟨rfl, HB.out⟩
  · have h0b : (ev == 0) = false := by simp [h0]
    have hev := HGR.out.resolve_left h0
    have hev1 : 1 ≤ ev := hev.1
    have hev2 : ev ≤ 1048576 := hev.2
    have hq0 : 0 ≤ t / ev := Int.ediv_nonneg ht.1 (by omega)
    have hq1 : t / ev * ev ≤ t := by
      have := Int.emod_add_mul_ediv t ev
      have := Int.emod_nonneg t (show ev ≠ 0 by omega)
      rw [Int.mul_comm]; omega
    have hq2 : t / ev ≤ 1099511627776 := Int.le_trans (Int.ediv_le_self _ ht.1) ht.2
    have hq3 : 0 ≤ t / ev * ev := Int.mul_nonneg hq0 (by omega)
    have HE := Lib.hid (show bktS fr ev t = t / ev * ev by
      unfold bktS flr
      rw [if_neg h0]
      have := Int.emod_add_mul_ediv t ev
      rw [Int.mul_comm]; omega)
    have hz0 : 0 ≤ t := ht.1
    have htd : t.tdiv ev = t / ev := Int.tdiv_eq_ediv_of_nonneg ht.1
    have hm : ¬ ev = -1 := by omega
    clear hev
    go_upto_region 3 with fail
    go_quiet (fail)
    go_wp2_with fail
    go_ret
    exact ⟨by rw [HE.out]; rfl, HB.out.trans (below_drewN (Below.refl _ _) _)⟩
end Go.Proofs.Ytjfkgiflakfjfaa
