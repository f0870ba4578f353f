/- The code's cuboid (21), the document's (28). -/
import Derived.Test.YtgaallkdfcckpaaSA
import Derived.BigQuiet
namespace Go.Proofs.Ytgaallkdfcckpaa
open Go.RowKit Go.Maps Go.Lib Go.Shelf
set_option linter.unusedSimpArgs false
set_option linter.unusedVariables false
set_option maxRecDepth 100000 in
set_option maxHeartbeats 16000000 in
theorem cuboid_any (p : PZ) (t j : Int) (w : World) (hp : PIn w p) :
    Calls Try.prog 21 #[.agg #[.slice p.tA p.tn p.tc, .slice p.jA p.jn p.jc, .int .i64 p.hor], .int .i64 t, .int .i64 j] w fun e w' => e = .returned (cubV (cubC p t j)) ∧ Below w.heap.size w w' := by
  obtain ⟨w1, hw1⟩ : ∃ w1, w1 = w.alloc (.cells #[.slice p.tA p.tn p.tc, .slice p.jA p.jn p.jc, .int .i64 p.hor] 28) := ⟨_, rfl⟩
  have hb1 : Below w.heap.size w w1 := by rw [hw1]; exact bpush (Below.refl _ _) _
  have hK : Blk w1 w.heap.size 28 #[.slice p.tA p.tn p.tc, .slice p.jA p.jn p.jc, .int .i64 p.hor] := by rw [hw1]; exact Blk.new _ _ _
  have HB := Lib.hid hb1
  have HP := Lib.hid (hp.keep (Nat.le_refl _) hb1)
  obtain ⟨P, hPe⟩ : ∃ P, P = w.heap.size := ⟨_, rfl⟩
  rw [← hPe] at hK
  have HPE := Lib.hid hPe
  obtain ⟨o, ho⟩ : ∃ o, o = cubC p t j := ⟨_, rfl⟩
  rw [← ho]
  unfold cubC at ho
  have HO := Lib.hid ho
  obtain ⟨tA, htA⟩ : ∃ x, x = p.tA := ⟨_, rfl⟩
  obtain ⟨tn, htn⟩ : ∃ x, x = p.tn := ⟨_, rfl⟩
  obtain ⟨tc, htc⟩ : ∃ x, x = p.tc := ⟨_, rfl⟩
  obtain ⟨jA, hjA⟩ : ∃ x, x = p.jA := ⟨_, rfl⟩
  obtain ⟨jn, hjn⟩ : ∃ x, x = p.jn := ⟨_, rfl⟩
  obtain ⟨jc, hjc⟩ : ∃ x, x = p.jc := ⟨_, rfl⟩
  obtain ⟨c0, c1, c2⟩ := p_cells hK
  rw [← htA, ← htn, ← htc] at c0
  rw [← hjA, ← hjn, ← hjc] at c1
  have HTR := Lib.hid (show Row w1 tA (cellsTZ p.T) by rw [htA]; exact HP.out.t.row)
  have HJR := Lib.hid (show Row w1 jA (cellsTZ p.J) by rw [hjA]; exact HP.out.j.row)
  have HTN := Lib.hid (show tn = p.T.length by rw [htn]; exact HP.out.t.len)
  have HJN := Lib.hid (show jn = p.J.length by rw [hjn]; exact HP.out.j.len)
  have htm : tn ≤ 9223372036854775807 := by rw [htn]; exact HP.out.t.max
  have hjm : jn ≤ 9223372036854775807 := by rw [hjn]; exact HP.out.j.max
  have hW1 := hw1
  rw [← htA, ← htn, ← htc, ← hjA, ← hjn, ← hjc] at hW1 ⊢
  have HW1 := Lib.hid hW1
  clear hw1 hW1 hb1 hK hp hPe ho htA htn htc hjA hjn hjc c2
  go_enter Try.func21, Try.ntmps21
  go_upto_region 1 with fail
  rw [← HW1.out, ← HPE.out]
  by_cases t0 : t < 0
  · have HE := Lib.hid (show o = none by rw [HO.out, atZ_none (.inl t0)]; rfl)
    go_wp2_with fail
    go_ret3
    exact ⟨by rw [HE.out]; rfl, HB.out⟩
  by_cases t1 : t < (tn : Int)
  case neg =>
    have HE := Lib.hid (show o = none by rw [HO.out, atZ_none (.inr (by have := HTN.out; omega))]; rfl)
    have t2 : (tn : Int) ≤ t := by omega
    go_wp2_with fail
    go_ret3
    exact ⟨by rw [HE.out]; rfl, HB.out⟩
  case pos =>
  obtain ⟨k, rfl⟩ : ∃ k : Nat, t = (k : Int) := ⟨t.toNat, by omega⟩
  have hk : k < p.T.length := by have := HTN.out; omega
  have t2 : ¬ (tn : Int) ≤ (k : Int) := by omega
  have hz0 : (0 : Int) ≤ (k : Int) := by omega
  obtain ⟨b, off, hAe, q0, q1, q2⟩ := tz_cells HTR.out hk
  obtain ⟨z, hz⟩ : ∃ z, z = p.T[k]'hk := ⟨_, rfl⟩
  rw [← hz] at q0 q1 q2
  have HO1 := Lib.hid (show o = if j = -1 then some z else (atZ p.J j).bind fun y => if y.x = (k : Int) then some y else none by rw [HO.out, atZ_some hk, hz]; rfl)
  subst hAe
  clear hz hk
  by_cases j1 : j = -1
  · have HE := Lib.hid (show o = some z by rw [HO1.out, if_pos j1])
    subst j1
    obtain ⟨zx, hzx⟩ : ∃ x, x = z.x := ⟨_, rfl⟩
    obtain ⟨zg, hzg⟩ : ∃ x, x = z.g := ⟨_, rfl⟩
    obtain ⟨zA, hzA⟩ : ∃ x, x = z.A := ⟨_, rfl⟩
    obtain ⟨zn, hzn⟩ : ∃ x, x = z.n := ⟨_, rfl⟩
    obtain ⟨zc, hzc⟩ : ∃ x, x = z.c := ⟨_, rfl⟩
    rw [← hzx] at q0
    rw [← hzg] at q1
    rw [← hzA, ← hzn, ← hzc] at q2
    have HR := Lib.hid (show cubV o = .tuple #[.slice zA zn zc, .int .i64 zg, .bool true] by rw [HE.out, hzA, hzn, hzc, hzg]; rfl)
    obtain ⟨w2, hw2⟩ : ∃ w2, w2 = w1.alloc (.cells #[.int .i64 zx, .int .i64 zg, .slice zA zn zc] 60) := ⟨_, rfl⟩
    have hb2 : Below w1.heap.size w1 w2 := by rw [hw2]; exact bpush (Below.refl _ _) _
    have hK2 : Blk w2 w1.heap.size 60 #[.int .i64 zx, .int .i64 zg, .slice zA zn zc] := by rw [hw2]; exact Blk.new _ _ _
    have d1 : w2.cell? ⟨w1.heap.size, 1, none⟩ = some (.int .i64 zg) := by rw [hK2.cell 1]; rfl
    have d2 : w2.cell? ⟨w1.heap.size, 2, none⟩ = some (.slice zA zn zc) := by rw [hK2.cell 2]; rfl
    have HB2 := Lib.hid (bthen HB.out hb2)
    have HW2 := Lib.hid hw2
    clear hw2 hb2 hK2 hzx hzg hzA hzn hzc
    go_upto_region 5 with fail
    rw [← HW2.out]
    go_quiet (fail)
    go_wp2_with fail
    go_ret3
    exact ⟨(by rw [HR.out]; try rfl), HB2.out.trans (below_drewN (Below.refl _ _) _)⟩
  have j1b : (j == -1) = false := by simp [j1]
  by_cases j0 : j < 0
  · have HE := Lib.hid (show o = none by rw [HO1.out, if_neg j1, atZ_none (.inl j0)]; rfl)
    clear j1
    go_wp2_with fail
    go_ret3
    exact ⟨by rw [HE.out]; rfl, HB.out⟩
  by_cases j2 : j < (jn : Int)
  case neg =>
    have HE := Lib.hid (show o = none by rw [HO1.out, if_neg j1, atZ_none (.inr (by have := HJN.out; omega))]; rfl)
    have j3 : (jn : Int) ≤ j := by omega
    clear j1
    go_wp2_with fail
    go_ret3
    exact ⟨by rw [HE.out]; rfl, HB.out⟩
  case pos =>
  obtain ⟨i, rfl⟩ : ∃ i : Nat, j = (i : Int) := ⟨j.toNat, by omega⟩
  have hi : i < p.J.length := by have := HJN.out; omega
  have j3 : ¬ (jn : Int) ≤ (i : Int) := by omega
  have hi0 : (0 : Int) ≤ (i : Int) := by omega
  obtain ⟨b', off', hAe, r0, r1, r2⟩ := tz_cells HJR.out hi
  obtain ⟨y, hy⟩ : ∃ y, y = p.J[i]'hi := ⟨_, rfl⟩
  rw [← hy] at r0 r1 r2
  have HO2 := Lib.hid (show o = if y.x = (k : Int) then some y else none by rw [HO1.out, if_neg j1, atZ_some hi, hy]; rfl)
  subst hAe
  clear hy hi j1 q0 q1 q2
  obtain ⟨yx, hyx⟩ : ∃ x, x = y.x := ⟨_, rfl⟩
  obtain ⟨yg, hyg⟩ : ∃ x, x = y.g := ⟨_, rfl⟩
  obtain ⟨yA, hyA⟩ : ∃ x, x = y.A := ⟨_, rfl⟩
  obtain ⟨yn, hyn⟩ : ∃ x, x = y.n := ⟨_, rfl⟩
  obtain ⟨yc, hyc⟩ : ∃ x, x = y.c := ⟨_, rfl⟩
  rw [← hyx] at r0
  rw [← hyg] at r1
  rw [← hyA, ← hyn, ← hyc] at r2
  by_cases e1 : yx = (k : Int)
  · have HR := Lib.hid (show cubV o = .tuple #[.slice yA yn yc, .int .i64 yg, .bool true] by rw [HO2.out, if_pos (by rw [← hyx]; exact e1), hyA, hyn, hyc, hyg]; rfl)
    subst e1
    clear hyx hyg hyA hyn hyc
    go_upto_region 8 with fail
    go_quiet (fail)
    go_wp2_with fail
    go_ret3
    exact ⟨(by rw [HR.out]; try rfl), HB.out.trans (below_drewN (Below.refl _ _) _)⟩
  · have HE := Lib.hid (show o = none by rw [HO2.out, if_neg (by rw [← hyx]; exact e1)])
    have e1b : (yx != (k : Int)) = true := by simp [e1]
    clear hyx hyg hyA hyn hyc
    go_wp2_with fail
    go_ret3
    exact ⟨by rw [HE.out]; rfl, HB.out⟩
set_option maxRecDepth 100000 in
set_option maxHeartbeats 16000000 in
theorem rcuboid_any (p : PZ) (x : XZ) (z : TZ) (w : World) (hp : PIn w p) (hz : if x.proj < 0 then atZ p.T x.tier = some z else atZ p.J x.proj = some z) :
    Calls Try.prog 28 #[.agg #[.slice p.tA p.tn p.tc, .slice p.jA p.jn p.jc, .int .i64 p.hor], .agg #[.int .i64 x.frm, .int .i64 x.upto, .int .i64 x.tier, .int .i64 x.proj, .int .i64 x.rows]] w fun e w' => e = .returned (.tuple #[.slice z.A z.n z.c, .int .i64 z.g]) ∧ Below w.heap.size w w' := by
  obtain ⟨w1, hw1⟩ : ∃ w1, w1 = (w.alloc (.cells #[.slice p.tA p.tn p.tc, .slice p.jA p.jn p.jc, .int .i64 p.hor] 28)).alloc (.cells #[.int .i64 x.frm, .int .i64 x.upto, .int .i64 x.tier, .int .i64 x.proj, .int .i64 x.rows] 49) := ⟨_, rfl⟩
  have hb1 : Below w.heap.size w w1 := by rw [hw1]; exact bpush (bpush (Below.refl _ _) _) _
  have hK : Blk w1 w.heap.size 28 #[.slice p.tA p.tn p.tc, .slice p.jA p.jn p.jc, .int .i64 p.hor] := by rw [hw1]; exact (Blk.new w 28 #[.slice p.tA p.tn p.tc, .slice p.jA p.jn p.jc, .int .i64 p.hor]).below (bpush (Below.refl _ _) _)
  have hX : Blk w1 (w.heap.size + 1) 49 #[.int .i64 x.frm, .int .i64 x.upto, .int .i64 x.tier, .int .i64 x.proj, .int .i64 x.rows] := by
    have := Blk.new (w.alloc (.cells #[.slice p.tA p.tn p.tc, .slice p.jA p.jn p.jc, .int .i64 p.hor] 28)) 49 #[.int .i64 x.frm, .int .i64 x.upto, .int .i64 x.tier, .int .i64 x.proj, .int .i64 x.rows]
    rw [hw1]; simpa using this
  have HB := Lib.hid hb1
  have HP := Lib.hid (hp.keep (Nat.le_refl _) hb1)
  obtain ⟨P, hPe⟩ : ∃ P, P = w.heap.size := ⟨_, rfl⟩
  obtain ⟨X, hXe⟩ : ∃ X, X = w.heap.size + 1 := ⟨_, rfl⟩
  rw [← hPe] at hK
  rw [← hXe] at hX
  have HPE := Lib.hid hPe
  have HXE := Lib.hid hXe
  have HZ := Lib.hid hz
  obtain ⟨c0, c1, c2⟩ := p_cells hK
  obtain ⟨x0, x1, x2, x3, x4⟩ := xz_cells hX
  obtain ⟨tA, htA⟩ : ∃ x, x = p.tA := ⟨_, rfl⟩
  obtain ⟨tn, htn⟩ : ∃ x, x = p.tn := ⟨_, rfl⟩
  obtain ⟨tc, htc⟩ : ∃ x, x = p.tc := ⟨_, rfl⟩
  obtain ⟨jA, hjA⟩ : ∃ x, x = p.jA := ⟨_, rfl⟩
  obtain ⟨jn, hjn⟩ : ∃ x, x = p.jn := ⟨_, rfl⟩
  obtain ⟨jc, hjc⟩ : ∃ x, x = p.jc := ⟨_, rfl⟩
  obtain ⟨t, ht⟩ : ∃ t, t = x.tier := ⟨_, rfl⟩
  obtain ⟨j, hj⟩ : ∃ j, j = x.proj := ⟨_, rfl⟩
  rw [← ht] at x2
  rw [← hj] at x3
  rw [← htA, ← htn, ← htc] at c0
  rw [← hjA, ← hjn, ← hjc] at c1
  have HTR := Lib.hid (show Row w1 tA (cellsTZ p.T) by rw [htA]; exact HP.out.t.row)
  have HJR := Lib.hid (show Row w1 jA (cellsTZ p.J) by rw [hjA]; exact HP.out.j.row)
  have HTN := Lib.hid (show tn = p.T.length by rw [htn]; exact HP.out.t.len)
  have HJN := Lib.hid (show jn = p.J.length by rw [hjn]; exact HP.out.j.len)
  have htm : tn ≤ 9223372036854775807 := by rw [htn]; exact HP.out.t.max
  have hjm : jn ≤ 9223372036854775807 := by rw [hjn]; exact HP.out.j.max
  have hW1 := hw1
  have HT := Lib.hid ht
  have HJ := Lib.hid hj
  rw [← htA, ← htn, ← htc, ← hjA, ← hjn, ← hjc, ← ht, ← hj] at hW1 ⊢
  have HW1 := Lib.hid hW1
  clear hw1 hW1 hb1 hK hX hp hz hPe hXe htA htn htc hjA hjn hjc c2 x0 x1 x4 ht hj
  go_enter Try.func28, Try.ntmps28
  go_upto_region 1 with fail
  rw [← HW1.out, ← HXE.out, ← HPE.out]
  have HZ2 := Lib.hid (show if j < 0 then atZ p.T t = some z else atZ p.J j = some z by rw [HT.out, HJ.out]; exact HZ.out)
  by_cases j0 : j < 0
  · have h := HZ2.out
    rw [if_pos j0] at h
    obtain ⟨-, h1, h2⟩ := atZ_mem h
    obtain ⟨k, rfl⟩ : ∃ k : Nat, t = (k : Int) := ⟨t.toNat, by omega⟩
    have hk : k < p.T.length := by omega
    rw [atZ_some hk] at h
    have hkn : (k : Int) < (tn : Int) := by have := HTN.out; omega
    have hz0 : (0 : Int) ≤ (k : Int) := by omega
    obtain ⟨b, off, hAe, q0, q1, q2⟩ := tz_cells HTR.out hk
    rw [Option.some.inj h] at q0 q1 q2
    subst hAe
    clear h hk h1 h2
    obtain ⟨zg, hzg⟩ : ∃ x, x = z.g := ⟨_, rfl⟩
    obtain ⟨zA, hzA⟩ : ∃ x, x = z.A := ⟨_, rfl⟩
    obtain ⟨zn, hzn⟩ : ∃ x, x = z.n := ⟨_, rfl⟩
    obtain ⟨zc, hzc⟩ : ∃ x, x = z.c := ⟨_, rfl⟩
    rw [← hzg] at q1
    rw [← hzA, ← hzn, ← hzc] at q2
    have HZV := Lib.hid (show Value.tuple #[.slice z.A z.n z.c, .int .i64 z.g] = .tuple #[.slice zA zn zc, .int .i64 zg] by rw [hzg, hzA, hzn, hzc])
    clear hzg hzA hzn hzc
    go_upto_region 2 with fail
    go_quiet (fail)
    go_wp2_with fail
    go_ret2
    exact ⟨(by rw [HZV.out]; try rfl), HB.out.trans (below_drewN (Below.refl _ _) _)⟩
  · have h := HZ2.out
    rw [if_neg j0] at h
    obtain ⟨-, h1, h2⟩ := atZ_mem h
    obtain ⟨k, rfl⟩ : ∃ k : Nat, j = (k : Int) := ⟨j.toNat, by omega⟩
    have hk : k < p.J.length := by omega
    rw [atZ_some hk] at h
    have hkn : (k : Int) < (jn : Int) := by have := HJN.out; omega
    have hz0 : (0 : Int) ≤ (k : Int) := by omega
    obtain ⟨b, off, hAe, q0, q1, q2⟩ := tz_cells HJR.out hk
    rw [Option.some.inj h] at q0 q1 q2
    subst hAe
    clear h hk h1 h2
    obtain ⟨zg, hzg⟩ : ∃ x, x = z.g := ⟨_, rfl⟩
    obtain ⟨zA, hzA⟩ : ∃ x, x = z.A := ⟨_, rfl⟩
    obtain ⟨zn, hzn⟩ : ∃ x, x = z.n := ⟨_, rfl⟩
    obtain ⟨zc, hzc⟩ : ∃ x, x = z.c := ⟨_, rfl⟩
    rw [← hzg] at q1
    rw [← hzA, ← hzn, ← hzc] at q2
    have HZV := Lib.hid (show Value.tuple #[.slice z.A z.n z.c, .int .i64 z.g] = .tuple #[.slice zA zn zc, .int .i64 zg] by rw [hzg, hzA, hzn, hzc])
    clear hzg hzA hzn hzc
    go_upto_region 3 with fail
    go_quiet (fail)
    go_wp2_with fail
    go_ret2
    exact ⟨(by rw [HZV.out]; try rfl), HB.out.trans (below_drewN (Below.refl _ _) _)⟩
end Go.Proofs.Ytgaallkdfcckpaa
