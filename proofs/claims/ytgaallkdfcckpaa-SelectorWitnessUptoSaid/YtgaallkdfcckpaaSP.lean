/- The document's Check of a policy (43). -/
import Derived.Test.YtgaallkdfcckpaaSM
import Derived.Test.YtgaallkdfcckpaaSE
import Derived.BigQuiet
import Derived.Deep.RegionHeld3
namespace Go.Proofs.Ytgaallkdfcckpaa
open Go.RowKit Go.Maps Go.Lib Go.Shelf
set_option linter.unusedSimpArgs false
set_option linter.unusedVariables false
structure PolF (p : PZ) : Prop where
  t1 : 1 ≤ p.T.length
  t4 : p.T.length ≤ 4
  j4 : p.J.length ≤ 4
  tg : ∀ z ∈ p.T, okGran z.g
  tt : ∀ (i : Nat) (h : i + 1 < p.T.length), coB p.T[i + 1].g (p.T[i]'(by omega)).g = true ∧ ∀ s ∈ p.T[i + 1].D, s ∈ (p.T[i]'(by omega)).D
  jt : ∀ y ∈ p.J, ∃ k : Nat, ∃ h : k < p.T.length, y.x = (k : Int) ∧ coB y.g p.T[k].g = true ∧ ∀ s ∈ y.D, s ∈ p.T[k].D
def TierTo (p : PZ) (i : Nat) : Prop := ∀ (a : Nat) (h : a < p.T.length), a < i → okGran p.T[a].g ∧ ∀ b, a = b + 1 → ∃ hb : b < p.T.length, coB p.T[a].g p.T[b].g = true ∧ ∀ s ∈ p.T[a].D, s ∈ p.T[b].D
def ProjTo (p : PZ) (i : Nat) : Prop := ∀ (a : Nat) (h : a < p.J.length), a < i → ∃ k : Nat, ∃ hk : k < p.T.length, p.J[a].x = (k : Int) ∧ coB p.J[a].g p.T[k].g = true ∧ ∀ s ∈ p.J[a].D, s ∈ p.T[k].D
theorem polF_of {p : PZ} {n k : Nat} (h1 : 1 ≤ p.T.length) (h4 : p.T.length ≤ 4) (j4 : p.J.length ≤ 4) (ht : TierTo p n) (hn : p.T.length ≤ n) (hj : ProjTo p k) (hk : p.J.length ≤ k) : PolF p := by
  refine ⟨h1, h4, j4, fun z hz => ?_, fun i h => ?_, fun y hy => ?_⟩
  · obtain ⟨a, ha, rfl⟩ := List.mem_iff_getElem.1 hz
    exact (ht a ha (by omega)).1
  · obtain ⟨hb, h⟩ := (ht (i + 1) h (by omega)).2 i rfl
    exact h
  · obtain ⟨a, ha, rfl⟩ := List.mem_iff_getElem.1 hy
    exact hj a ha (by omega)
def CkP (w : World) (P : Prop) (e : Ending) (w' : World) : Prop := (∃ v : Int, e = .returned (.int .i64 v) ∧ (v = 0 → P)) ∧ Below w.heap.size w w'
set_option maxRecDepth 100000 in
set_option maxHeartbeats 64000000 in
theorem check43 (A B : Option Addr) (n c md d : Nat) (L M : List ByteArray) (p : PZ) (w : World) (hL : StrsIn w A n c L) (hp : PIn w p) : Calls Try.prog 43 #[.agg #[.slice A n c, .slice B md d], .agg #[.slice p.tA p.tn p.tc, .slice p.jA p.jn p.jc, .int .i64 p.hor]] w (CkP w (PolF p)) := by
  obtain ⟨wa, hwa⟩ : ∃ wa, wa = w.alloc (.cells #[.slice A n c, .slice B md d] 24) := ⟨_, rfl⟩
  obtain ⟨w1, hw1⟩ : ∃ w1, w1 = wa.alloc (.cells #[.slice p.tA p.tn p.tc, .slice p.jA p.jn p.jc, .int .i64 p.hor] 28) := ⟨_, rfl⟩
  have ba : Below w.heap.size w wa := by rw [hwa]; exact bpush (Below.refl _ _) _
  have bb : Below wa.heap.size wa w1 := by rw [hw1]; exact bpush (Below.refl _ _) _
  have kS : Blk wa w.heap.size 24 #[.slice A n c, .slice B md d] := by rw [hwa]; exact Blk.new _ _ _
  have kP : Blk w1 wa.heap.size 28 #[.slice p.tA p.tn p.tc, .slice p.jA p.jn p.jc, .int .i64 p.hor] := by rw [hw1]; exact Blk.new _ _ _
  have sza : wa.heap.size = w.heap.size + 1 := by rw [hwa]; simp
  rw [sza] at kP
  have kS := kS.below bb
  have HB1 := Lib.hid (bthen ba bb)
  obtain ⟨S, hSe⟩ : ∃ S, S = w.heap.size := ⟨_, rfl⟩
  obtain ⟨P, hPe⟩ : ∃ P, P = w.heap.size + 1 := ⟨_, rfl⟩
  rw [← hSe] at kS
  rw [← hPe] at kP
  have HP := Lib.hid (hp.keep (Nat.le_refl _) (bthen ba bb))
  have HL := Lib.hid (hL.keep (Nat.le_refl _) (bthen ba bb))
  have HW1 := Lib.hid (show w1 = (w.alloc (.cells #[.slice A n c, .slice B md d] 24)).alloc (.cells #[.slice p.tA p.tn p.tc, .slice p.jA p.jn p.jc, .int .i64 p.hor] 28) by rw [hw1, hwa])
  have HE2 := Lib.hid (And.intro hSe hPe)
  obtain ⟨tA, htA⟩ : ∃ y, y = p.tA := ⟨_, rfl⟩
  obtain ⟨tn, htn⟩ : ∃ y, y = p.tn := ⟨_, rfl⟩
  obtain ⟨tc, htc⟩ : ∃ y, y = p.tc := ⟨_, rfl⟩
  obtain ⟨jA, hjA⟩ : ∃ y, y = p.jA := ⟨_, rfl⟩
  obtain ⟨jn, hjn⟩ : ∃ y, y = p.jn := ⟨_, rfl⟩
  obtain ⟨jc, hjc⟩ : ∃ y, y = p.jc := ⟨_, rfl⟩
  have HCE := Lib.hid (fun W (hW : Below w1.heap.size w1 W) => show W.cell? ⟨S, 0, none⟩ = some (.slice A n c) ∧ W.cell? ⟨P, 0, none⟩ = some (.slice tA tn tc) ∧ W.cell? ⟨P, 1, none⟩ = some (.slice jA jn jc) ∧ W.cell? ⟨P, 2, none⟩ = some (.int .i64 p.hor) from by
    rw [htA, htn, htc, hjA, hjn, hjc]
    exact ⟨(s_cells (kS.below hW)).1, p_cells (kP.below hW)⟩)
  have HTR := Lib.hid (show Row w1 tA (cellsTZ p.T) by rw [htA]; exact HP.out.t.row)
  have HJR := Lib.hid (show Row w1 jA (cellsTZ p.J) by rw [hjA]; exact HP.out.j.row)
  have HTN := Lib.hid (show tn = p.T.length by rw [htn]; exact HP.out.t.len)
  have HJN := Lib.hid (show jn = p.J.length by rw [hjn]; exact HP.out.j.len)
  have htm : tn ≤ 9223372036854775807 := by rw [htn]; exact HP.out.t.max
  have hjm : jn ≤ 9223372036854775807 := by rw [hjn]; exact HP.out.j.max
  obtain ⟨c0, p0, p1, p2⟩ := HCE.out w1 (Below.refl _ _)
  clear hwa hw1 ba bb kS kP sza hp hL hSe hPe htA htn htc hjA hjn hjc
  go_enter Try.func43, Try.ntmps43
  go_upto_region 1 with fail
  rw [← HW1.out, ← HE2.out.2, ← HE2.out.1]
  by_cases h1 : tn < 1
  · have d1 : decide ((tn : Int) < 1) = true := by simp; omega
    go_wp2_with fail
    go_ret
    exact ⟨⟨_, rfl, fun h => by cases h⟩, HB1.out⟩
  have d1 : decide ((tn : Int) < 1) = false := by simp; omega
  by_cases h4 : 4 < tn
  · have d2 : decide ((4 : Int) < (tn : Int)) = true := by simp; omega
    go_wp2_with fail
    go_ret
    exact ⟨⟨_, rfl, fun h => by cases h⟩, HB1.out⟩
  have d2 : decide ((4 : Int) < (tn : Int)) = false := by simp; omega
  by_cases j4 : 4 < jn
  · have d3 : decide ((4 : Int) < (jn : Int)) = true := by simp; omega
    go_wp2_with fail
    go_ret
    exact ⟨⟨_, rfl, fun h => by cases h⟩, HB1.out⟩
  have d3 : decide ((4 : Int) < (jn : Int)) = false := by simp; omega
  have ht0 : 0 < p.T.length := by have := HTN.out; omega
  have htz : (0 : Int) < (tn : Int) := by omega
  have htz2 : 0 < tn := by omega
  have htz3 : ¬ tn = 0 := by omega
  obtain ⟨b, off, hAe, q0, q1, q2⟩ := tz_cells HTR.out ht0
  simp only [Nat.zero_mul, Nat.add_zero] at q0 q1 q2
  obtain ⟨zx, hzx⟩ : ∃ y, y = (p.T[0]'ht0).x := ⟨_, rfl⟩
  obtain ⟨zA, hzA⟩ : ∃ y, y = (p.T[0]'ht0).A := ⟨_, rfl⟩
  obtain ⟨zn, hzn⟩ : ∃ y, y = (p.T[0]'ht0).n := ⟨_, rfl⟩
  obtain ⟨zc, hzc⟩ : ∃ y, y = (p.T[0]'ht0).c := ⟨_, rfl⟩
  rw [← hzx] at q0
  rw [← hzA, ← hzn, ← hzc] at q2
  have HS0 := Lib.hid (show StrsIn w1 zA zn zc (p.T[0]'ht0).D by rw [hzA, hzn, hzc]; exact HP.out.t.each _ (List.getElem_mem _))
  subst hAe
  have HT0 := Lib.hid ht0
  clear hzx hzA hzn hzc q1
  by_cases x0 : zx = 0
  case neg =>
    have x0b : (zx != 0) = true := by simp [x0]
    clear x0
    go_wp2_with fail
    go_ret
    exact ⟨⟨_, rfl, fun h => by cases h⟩, HB1.out⟩
  subst x0
  obtain ⟨rt, hrt⟩ := bool_of ((p.T[0]'HT0.out).D = L)
  have HTX := Lib.hid (fun W (hW : Below w1.heap.size w1 W) => texts_any zA A zn zc n c (p.T[0]'HT0.out).D L W (HS0.out.row.keep (Nat.le_refl _) hW) (HL.out.row.keep (Nat.le_refl _) hW) HS0.out.len HL.out.len HS0.out.max HL.out.max rt hrt)
  have HTC := Lib.hid (fun W (hW : Below w1.heap.size w1 W) => And.intro (HCE.out W hW) (cell_on hW q2))
  clear hrt
  go_upto_region 4 with fail
  go_region_held3 (fun W => (W.cell? ⟨P, 0, none⟩ = some (.slice (some ⟨b, off, none⟩) tn tc) ∧ W.cell? ⟨b, off + 2, none⟩ = some (.slice zA zn zc) ∧ W.cell? ⟨S, 0, none⟩ = some (.slice A n c)) ∧ Below w1.heap.size w1 W)
    (first
      | (obtain ⟨⟨x0, x1, x2, x3⟩, y2⟩ := HTC.out _ (below_drewN (Below.refl _ _) 1); exact ⟨⟨x1, y2, x0⟩, below_drewN (Below.refl _ _) 1⟩)
      | (obtain ⟨⟨x0, x1, x2, x3⟩, y2⟩ := HTC.out _ hbz; exact ⟨⟨x1, y2, x0⟩, hbz⟩))
    (first
      | (go_at_call 63; refine (HTX.out _ (below_drewN (Below.refl _ _) 1)).mono ?_; rintro e w7 ⟨rfl, hb⟩; have hbz : Below w1.heap.size w1 w7 := (below_drewN (Below.refl _ _) 1).trans (hb.mono (Nat.le_refl _))))
  have HB7 := Lib.hid hbz
  clear hb hbz c0 p0 p1 p2 q0 q2
  cases rt with
  | false =>
    go_wp2_with fail
    go_ret
    exact ⟨⟨_, rfl, fun h => by cases h⟩, bthen HB1.out HB7.out⟩
  | true =>
  go_upto_region 8 with fail
  go_loopw [7] (fun vi wr => ∃ i : Nat, i ≤ tn ∧ vi = .int .i64 i ∧ Hid (TierTo p i) ∧ Hid (Below w1.heap.size w1 wr)) (fun vi _ => tn - (intOf vi).toNat)
  case atStart => exact ⟨0, by omega, rfl, Lib.hid (fun a _ h => by omega), HB7⟩
  case round =>
    obtain ⟨i, hi, rfl, HTT, HB⟩ := hrel
    obtain ⟨wo, rfl⟩ : ∃ wo : World, wo = wr := ⟨_, rfl⟩
    obtain ⟨c0, p0, p1, p2⟩ := HCE.out wo HB.out
    by_cases hlt : i < tn
    case neg =>
      obtain rfl : i = tn := by omega
      have hge : ¬ (i : Int) < (i : Int) := by omega
      have HI1 := Lib.hid (And.intro h1 (And.intro h4 j4))
      obtain ⟨m, rfl⟩ : ∃ m, i = m + 1 := ⟨i - 1, by omega⟩
      clear hlt p0 p1 p2 c0
      go_upto_region 22 with fail
      go_loopw [14] (fun vj wr => ∃ j : Nat, j ≤ jn ∧ vj = .int .i64 j ∧ Hid (ProjTo p j) ∧ Hid (Below w1.heap.size w1 wr)) (fun vj _ => jn - (intOf vj).toNat)
      case atStart => exact ⟨0, by omega, rfl, Lib.hid (fun a _ h => by omega), HB⟩
      case round =>
        obtain ⟨j, hj, rfl, HPJ, HBJ⟩ := hrel
        obtain ⟨wi, rfl⟩ : ∃ wi : World, wi = wr := ⟨_, rfl⟩
        obtain ⟨c0, p0, p1, p2⟩ := HCE.out wi HBJ.out
        by_cases hltj : j < jn
        case neg =>
          obtain rfl : j = jn := by omega
          have hgej : ¬ (j : Int) < (j : Int) := by omega
          have HOK := Lib.hid (show PolF p from polF_of (n := m + 1) (k := j) (by have := HTN.out; omega) (by have := HTN.out; omega) (by have := HJN.out; omega) HTT.out (by have := HTN.out; omega) HPJ.out (by have := HJN.out; omega))
          have HAG := Lib.hid (age_any p.hor wi)
          obtain ⟨ra, hra⟩ : ∃ r, r = (decide (0 ≤ p.hor) && decide (p.hor ≤ 1099511627776)) := ⟨_, rfl⟩
          rw [← hra] at HAG
          have hmz : m < p.T.length := by have := HTN.out; omega
          have hm0 : (0 : Int) ≤ (m : Int) := by omega
          have hm1 : (m : Int) < ((m + 1 : Nat) : Int) := by omega
          have hm2 : (m : Int) < (m : Int) + 1 := by omega
          have hmw : IntKind.i64.wrap (m : Int) = (m : Int) := IntWalk.i64_in _ (by omega)
          obtain ⟨b', off', hAe, r0, r1, r2⟩ := tz_cells (HTR.out.keep (Nat.le_refl _) HBJ.out) hmz
          cases hAe
          obtain ⟨lx, hlx⟩ : ∃ y, y = (p.T[m]'hmz).x := ⟨_, rfl⟩
          rw [← hlx] at r0
          obtain ⟨ho, hho⟩ : ∃ y, y = p.hor := ⟨_, rfl⟩
          rw [← hho] at p2 HAG
          clear hra hlx hltj r1 r2 hho
          go_upto_region 32 with (go_at_call 64; refine HAG.out.mono ?_; rintro e w8 ⟨rfl, rfl⟩)
          cases ra with
          | false =>
            go_quiet (fail)
            go_wp2_with fail
            go_ret
            exact ⟨⟨_, rfl, fun h => by cases h⟩, bthen HB1.out (HBJ.out.trans (below_drewN (Below.refl _ _) _))⟩
          | true =>
          by_cases hl : ho ≤ lx
          · have dl : decide (ho ≤ lx) = true := by simp [hl]
            clear hl
            go_quiet (fail)
            go_wp2_with fail
            go_ret
            exact ⟨⟨_, rfl, fun h => by cases h⟩, bthen HB1.out (HBJ.out.trans (below_drewN (Below.refl _ _) _))⟩
          · have dl : decide (ho ≤ lx) = false := by simp [hl]
            clear hl
            go_quiet (fail)
            go_wp2_with fail
            go_ret
            exact ⟨⟨_, rfl, fun _ => HOK.out⟩, bthen HB1.out (HBJ.out.trans (below_drewN (Below.refl _ _) _))⟩
        case pos =>
        have hjz : j < p.J.length := by have := HJN.out; omega
        have hji : (j : Int) < (jn : Int) := by omega
        have hj0 : (0 : Int) ≤ (j : Int) := by omega
        obtain ⟨b', off', hAe, r0, r1, r2⟩ := tz_cells (HJR.out.keep (Nat.le_refl _) HBJ.out) hjz
        obtain ⟨zx, hzx⟩ : ∃ y, y = (p.J[j]'hjz).x := ⟨_, rfl⟩
        obtain ⟨zg, hzg⟩ : ∃ y, y = (p.J[j]'hjz).g := ⟨_, rfl⟩
        obtain ⟨zA, hzA⟩ : ∃ y, y = (p.J[j]'hjz).A := ⟨_, rfl⟩
        obtain ⟨zn, hzn⟩ : ∃ y, y = (p.J[j]'hjz).n := ⟨_, rfl⟩
        obtain ⟨zc, hzc⟩ : ∃ y, y = (p.J[j]'hjz).c := ⟨_, rfl⟩
        rw [← hzx] at r0
        rw [← hzg] at r1
        rw [← hzA, ← hzn, ← hzc] at r2
        have HZS := Lib.hid (fun W (hW : Below w1.heap.size w1 W) => show StrsIn W zA zn zc (p.J[j]'hjz).D from by rw [hzA, hzn, hzc]; exact (HP.out.j.each _ (List.getElem_mem _)).keep (Nat.le_refl _) hW)
        obtain ⟨wb, hwb⟩ : ∃ wb, wb = wi.alloc (.cells #[.int .i64 zx, .int .i64 zg, .slice zA zn zc] 51) := ⟨_, rfl⟩
        have hbb : Below wi.heap.size wi wb := by rw [hwb]; exact bpush (Below.refl _ _) _
        have hkb : Blk wb wi.heap.size 51 #[.int .i64 zx, .int .i64 zg, .slice zA zn zc] := by rw [hwb]; exact Blk.new _ _ _
        have HBB := Lib.hid (bthen HBJ.out hbb)
        have HWB := Lib.hid hwb
        obtain ⟨Y, hY⟩ : ∃ Y, Y = wi.heap.size := ⟨_, rfl⟩
        rw [← hY] at hkb
        have HKB := Lib.hid hkb
        have HYE := Lib.hid hY
        have HYC := Lib.hid (fun W (hW : Below wb.heap.size wb W) => show (W.cell? ⟨Y, 0, none⟩ = some (.int .i64 zx) ∧ W.cell? ⟨Y, 1, none⟩ = some (.int .i64 zg) ∧ W.cell? ⟨Y, 2, none⟩ = some (.slice zA zn zc)) ∧ W.cell? ⟨P, 0, none⟩ = some (.slice (some ⟨b, off, none⟩) (m + 1) tc) from ⟨⟨by rw [(HKB.out.below hW).cell 0]; rfl, by rw [(HKB.out.below hW).cell 1]; rfl, by rw [(HKB.out.below hW).cell 2]; rfl⟩, (HCE.out W (bthen HBB.out hW)).2.1⟩)
        have HZV := Lib.hid (And.intro hzx hzg)
        subst hAe
        clear hzx hzg hzA hzn hzc hwb hbb hkb hY hltj
        go_upto_region 25 with fail
        rw [← HWB.out, ← HYE.out]
        clear r0 r1 r2 c0 p0 p1 p2
        obtain ⟨⟨y0, y1, y2⟩, p0⟩ := HYC.out wb (Below.refl _ _)
        by_cases x0 : zx < 0
        · have dx : decide (zx < 0) = true := by simp [x0]
          clear x0
          go_wp2_with fail
          go_ret
          exact ⟨⟨_, rfl, fun h => by cases h⟩, bthen HB1.out HBB.out⟩
        have dx : decide (zx < 0) = false := by simp [x0]
        by_cases x1 : ((m + 1 : Nat) : Int) ≤ zx
        · have dx1 : decide (((m + 1 : Nat) : Int) ≤ zx) = true := decide_eq_true x1
          have dx2 : decide ((m : Int) + 1 ≤ zx) = true := decide_eq_true (by omega)
          clear x0 x1
          go_wp2_with fail
          go_ret
          exact ⟨⟨_, rfl, fun h => by cases h⟩, bthen HB1.out HBB.out⟩
        have dx1 : decide (((m + 1 : Nat) : Int) ≤ zx) = false := by simp; omega
        have dx2 : decide ((m : Int) + 1 ≤ zx) = false := by simp; omega
        obtain ⟨t, rfl⟩ : ∃ t : Nat, zx = (t : Int) := ⟨zx.toNat, by omega⟩
        have htk : t < p.T.length := by have := HTN.out; omega
        have ht0 : (0 : Int) ≤ (t : Int) := by omega
        have ht1 : (t : Int) < ((m + 1 : Nat) : Int) := by omega
        have ht2 : (t : Int) < (m : Int) + 1 := by omega
        obtain ⟨b2, off2, hAe2, u0, u1, u2⟩ := tz_cells (HTR.out.keep (Nat.le_refl _) HBB.out) htk
        obtain ⟨ug, hug⟩ : ∃ y, y = (p.T[t]'htk).g := ⟨_, rfl⟩
        obtain ⟨uA, huA⟩ : ∃ y, y = (p.T[t]'htk).A := ⟨_, rfl⟩
        obtain ⟨un, hun⟩ : ∃ y, y = (p.T[t]'htk).n := ⟨_, rfl⟩
        obtain ⟨uc, huc⟩ : ∃ y, y = (p.T[t]'htk).c := ⟨_, rfl⟩
        rw [← hug] at u1
        rw [← huA, ← hun, ← huc] at u2
        have HUS := Lib.hid (fun W (hW : Below w1.heap.size w1 W) => show StrsIn W uA un uc (p.T[t]'htk).D from by rw [huA, hun, huc]; exact (HP.out.t.each _ (List.getElem_mem _)).keep (Nat.le_refl _) hW)
        have HUV := Lib.hid hug
        cases hAe2
        have HUC := Lib.hid (fun W (hW : Below wb.heap.size wb W) => And.intro (HYC.out W hW) (And.intro (cell_on hW u1) (cell_on hW u2)))
        have HCO := Lib.hid (fun W => rco_any zg ug W)
        obtain ⟨co, hco⟩ : ∃ r, r = coB zg ug := ⟨_, rfl⟩
        rw [← hco] at HCO
        have HCOE := Lib.hid hco
        have HSB := Lib.hid (fun W (hW : Below wb.heap.size wb W) => subset66 zA uA zn zc un uc (p.J[j]'hjz).D (p.T[t]'htk).D W (HZS.out W (bthen HBB.out hW)) (HUS.out W (bthen HBB.out hW)))
        have HNXT := Lib.hid (fun (h1 : co = true) (h2 : ∀ s ∈ (p.J[j]'hjz).D, s ∈ (p.T[t]'htk).D) => show ProjTo p (j + 1) from fun a ha hk => by
          rcases Nat.lt_or_ge a j with e | e
          · exact HPJ.out a ha e
          · obtain rfl : a = j := by omega
            exact ⟨t, htk, by rw [← HZV.out.1], by rw [← HZV.out.2, ← HUV.out, ← HCOE.out]; exact h1, h2⟩)
        clear hug huA hun huc hco x0 x1 u0
        go_upto_region 27 with fail
        go_region_held3 (fun W => (W.cell? ⟨Y, 0, none⟩ = some (.int .i64 (t : Int)) ∧ W.cell? ⟨Y, 1, none⟩ = some (.int .i64 zg) ∧ W.cell? ⟨P, 0, none⟩ = some (.slice (some ⟨b, off, none⟩) (m + 1) tc) ∧ W.cell? ⟨b, off + t * 3 + 1, none⟩ = some (.int .i64 ug)) ∧ Below wb.heap.size wb W)
          (first
            | (obtain ⟨⟨⟨x0, x1, x2⟩, x3⟩, x4, x5⟩ := HUC.out _ (below_drewN (Below.refl _ _) 1); exact ⟨⟨x0, x1, x3, x4⟩, below_drewN (Below.refl _ _) 1⟩))
          (first
            | (go_at_call 65; refine (HCO.out _).mono ?_; rintro e w8 ⟨rfl, rfl⟩))
        clear y0 y1 y2 p0 u1 u2
        obtain ⟨wk, hwk⟩ : ∃ wk, wk = wb.drew := ⟨_, rfl⟩
        have HBK := Lib.hid (show Below wb.heap.size wb wk by rw [hwk]; exact below_drewN (Below.refl _ _) 1)
        rw [← hwk]
        clear hwk
        obtain ⟨⟨⟨y0, y1, y2⟩, p0⟩, u1, u2⟩ := HUC.out wk HBK.out
        go_upto_region 28 with fail
        go_region_held3 (fun W => (W.cell? ⟨Y, 0, none⟩ = some (.int .i64 (t : Int)) ∧ W.cell? ⟨Y, 2, none⟩ = some (.slice zA zn zc) ∧ W.cell? ⟨P, 0, none⟩ = some (.slice (some ⟨b, off, none⟩) (m + 1) tc) ∧ W.cell? ⟨b, off + t * 3 + 2, none⟩ = some (.slice uA un uc)) ∧ Below wb.heap.size wb W)
          (first
            | (obtain ⟨⟨⟨x0, x1, x2⟩, x3⟩, x4, x5⟩ := HUC.out _ (below_drewN HBK.out 1); exact ⟨⟨x0, x2, x3, x5⟩, below_drewN HBK.out 1⟩))
          (first
            | (go_at_call 66; refine (HSB.out _ (below_drewN HBK.out 1)).mono ?_; rintro e w8 ⟨⟨r2, rfl, hr2⟩, rfl⟩))
        have HR2 := Lib.hid hr2
        have HBL := Lib.hid (show Below w1.heap.size w1 wk.drew from below_drewN (bthen HBB.out HBK.out) 1)
        clear hr2 y0 y1 y2 p0 u1 u2
        cases co with
        | false =>
          go_wp2_with fail
          go_ret
          exact ⟨⟨_, rfl, fun h => by cases h⟩, bthen HB1.out HBL.out⟩
        | true =>
        cases r2 with
        | false =>
          go_wp2_with fail
          go_ret
          exact ⟨⟨_, rfl, fun h => by cases h⟩, bthen HB1.out HBL.out⟩
        | true =>
          have HN2 := Lib.hid (HNXT.out rfl (HR2.out rfl))
          go_wp2_with fail
          go_roundw
          case rel => exact ⟨j + 1, by omega, by go_num, HN2, HBL⟩
          case measure => simp [intOf]; omega
    case pos =>
    have hiz : i < p.T.length := by have := HTN.out; omega
    have hii : (i : Int) < (tn : Int) := by omega
    have hi0 : (0 : Int) ≤ (i : Int) := by omega
    obtain ⟨b', off', hAe, r0, r1, r2⟩ := tz_cells (HTR.out.keep (Nat.le_refl _) HB.out) hiz
    cases hAe
    obtain ⟨zx, hzx⟩ : ∃ y, y = (p.T[i]'hiz).x := ⟨_, rfl⟩
    obtain ⟨zg, hzg⟩ : ∃ y, y = (p.T[i]'hiz).g := ⟨_, rfl⟩
    obtain ⟨zA, hzA⟩ : ∃ y, y = (p.T[i]'hiz).A := ⟨_, rfl⟩
    obtain ⟨zn, hzn⟩ : ∃ y, y = (p.T[i]'hiz).n := ⟨_, rfl⟩
    obtain ⟨zc, hzc⟩ : ∃ y, y = (p.T[i]'hiz).c := ⟨_, rfl⟩
    rw [← hzx] at r0
    rw [← hzg] at r1
    rw [← hzA, ← hzn, ← hzc] at r2
    have HZS := Lib.hid (fun W (hW : Below w1.heap.size w1 W) => show StrsIn W zA zn zc (p.T[i]'hiz).D from by rw [hzA, hzn, hzc]; exact (HP.out.t.each _ (List.getElem_mem _)).keep (Nat.le_refl _) hW)
    obtain ⟨wb, hwb⟩ : ∃ wb, wb = wo.alloc (.cells #[.int .i64 zx, .int .i64 zg, .slice zA zn zc] 60) := ⟨_, rfl⟩
    have hbb : Below wo.heap.size wo wb := by rw [hwb]; exact bpush (Below.refl _ _) _
    have hkb : Blk wb wo.heap.size 60 #[.int .i64 zx, .int .i64 zg, .slice zA zn zc] := by rw [hwb]; exact Blk.new _ _ _
    have HBB := Lib.hid (bthen HB.out hbb)
    have HWB := Lib.hid hwb
    obtain ⟨Y, hY⟩ : ∃ Y, Y = wo.heap.size := ⟨_, rfl⟩
    rw [← hY] at hkb
    have HKB := Lib.hid hkb
    have HYE := Lib.hid hY
    have HYC := Lib.hid (fun W (hW : Below wb.heap.size wb W) => show (W.cell? ⟨Y, 0, none⟩ = some (.int .i64 zx) ∧ W.cell? ⟨Y, 1, none⟩ = some (.int .i64 zg) ∧ W.cell? ⟨Y, 2, none⟩ = some (.slice zA zn zc)) ∧ W.cell? ⟨P, 0, none⟩ = some (.slice (some ⟨b, off, none⟩) tn tc) from ⟨⟨by rw [(HKB.out.below hW).cell 0]; rfl, by rw [(HKB.out.below hW).cell 1]; rfl, by rw [(HKB.out.below hW).cell 2]; rfl⟩, (HCE.out W (bthen HBB.out hW)).2.1⟩)
    have HZG := Lib.hid hzg
    have HRG := Lib.hid (fun W => brright_any zg W)
    obtain ⟨rg, hrg⟩ : ∃ r, r = decide (okGran zg) := ⟨_, rfl⟩
    rw [← hrg] at HRG
    have HRGE := Lib.hid (show rg = true → okGran zg from fun h => of_decide_eq_true (by rw [← hrg]; exact h))
    have HAG := Lib.hid (fun W => age_any zx W)
    obtain ⟨ra, hra⟩ : ∃ r, r = (decide (0 ≤ zx) && decide (zx ≤ 1099511627776)) := ⟨_, rfl⟩
    rw [← hra] at HAG
    clear hzx hzg hzA hzn hzc hwb hbb hkb hY hlt hrg hra
    go_upto_region 11 with fail
    rw [← HWB.out, ← HYE.out]
    clear r0 r1 r2 c0 p0 p1 p2
    obtain ⟨⟨y0, y1, y2⟩, p0⟩ := HYC.out wb (Below.refl _ _)
    go_upto_region 13 with (first
      | (go_at_call 58; refine (HRG.out _).mono ?_; rintro e w8 ⟨rfl, rfl⟩)
      | (go_at_call 64; refine (HAG.out _).mono ?_; rintro e w8 ⟨rfl, rfl⟩))
    cases rg with
    | false =>
      go_wp2_with fail
      go_ret
      exact ⟨⟨_, rfl, fun h => by cases h⟩, bthen HB1.out HBB.out⟩
    | true =>
    have HGO := Lib.hid (HRGE.out rfl)
    cases ra with
    | false =>
      go_wp2_with fail
      go_ret
      exact ⟨⟨_, rfl, fun h => by cases h⟩, bthen HB1.out HBB.out⟩
    | true =>
    by_cases i0 : i = 0
    · have i0b : ((i : Int) == 0) = true := by simp [i0]
      have HN2 := Lib.hid (show TierTo p (i + 1) from fun a ha hk => by
        obtain rfl : a = i := by omega
        exact ⟨by rw [← HZG.out]; exact HGO.out, fun b hb => by omega⟩)
      clear i0
      go_wp2_with fail
      go_roundw
      case rel => exact ⟨i + 1, by omega, by go_num, HN2, HBB⟩
      case measure => simp [intOf]; omega
    have i0b : ((i : Int) == 0) = false := by simp; omega
    obtain ⟨k, rfl⟩ : ∃ k, i = k + 1 := ⟨i - 1, by omega⟩
    have hkz : k < p.T.length := by omega
    have hk0 : (0 : Int) ≤ (k : Int) := by omega
    have hk1 : (k : Int) < (tn : Int) := by omega
    have hkw : IntKind.i64.wrap (k : Int) = (k : Int) := IntWalk.i64_in _ (by omega)
    obtain ⟨b', off', hAe, u0, u1, u2⟩ := tz_cells (HTR.out.keep (Nat.le_refl _) HBB.out) hkz
    cases hAe
    obtain ⟨ux, hux⟩ : ∃ y, y = (p.T[k]'hkz).x := ⟨_, rfl⟩
    obtain ⟨ug, hug⟩ : ∃ y, y = (p.T[k]'hkz).g := ⟨_, rfl⟩
    obtain ⟨uA, huA⟩ : ∃ y, y = (p.T[k]'hkz).A := ⟨_, rfl⟩
    obtain ⟨un, hun⟩ : ∃ y, y = (p.T[k]'hkz).n := ⟨_, rfl⟩
    obtain ⟨uc, huc⟩ : ∃ y, y = (p.T[k]'hkz).c := ⟨_, rfl⟩
    rw [← hux] at u0
    rw [← hug] at u1
    rw [← huA, ← hun, ← huc] at u2
    have HUS := Lib.hid (fun W (hW : Below w1.heap.size w1 W) => show StrsIn W uA un uc (p.T[k]'hkz).D from by rw [huA, hun, huc]; exact (HP.out.t.each _ (List.getElem_mem _)).keep (Nat.le_refl _) hW)
    obtain ⟨wc, hwc⟩ : ∃ wc, wc = wb.alloc (.cells #[.int .i64 ux, .int .i64 ug, .slice uA un uc] 60) := ⟨_, rfl⟩
    have hbc : Below wb.heap.size wb wc := by rw [hwc]; exact bpush (Below.refl _ _) _
    have hkc : Blk wc wb.heap.size 60 #[.int .i64 ux, .int .i64 ug, .slice uA un uc] := by rw [hwc]; exact Blk.new _ _ _
    have HBC := Lib.hid (bthen HBB.out hbc)
    have HWC := Lib.hid hwc
    obtain ⟨Z, hZ⟩ : ∃ Z, Z = wb.heap.size := ⟨_, rfl⟩
    rw [← hZ] at hkc
    have HZE := Lib.hid hZ
    have HUG := Lib.hid hug
    obtain ⟨⟨z0, z1, z2⟩, z3⟩ := HYC.out wc hbc
    have v0 : wc.cell? ⟨Z, 0, none⟩ = some (.int .i64 ux) := by rw [hkc.cell 0]; rfl
    have v1 : wc.cell? ⟨Z, 1, none⟩ = some (.int .i64 ug) := by rw [hkc.cell 1]; rfl
    have v2 : wc.cell? ⟨Z, 2, none⟩ = some (.slice uA un uc) := by rw [hkc.cell 2]; rfl
    have HCO := Lib.hid (fun W => rco_any zg ug W)
    obtain ⟨co, hco⟩ : ∃ r, r = coB zg ug := ⟨_, rfl⟩
    rw [← hco] at HCO
    have HSB := Lib.hid (subset66 zA uA zn zc un uc (p.T[k + 1]'hiz).D (p.T[k]'hkz).D wc (HZS.out wc HBC.out) (HUS.out wc HBC.out))
    have HNXT := Lib.hid (fun (h1 : co = true) (h2 : ∀ s ∈ (p.T[k + 1]'hiz).D, s ∈ (p.T[k]'hkz).D) => show TierTo p (k + 1 + 1) from fun a ha hk => by
      rcases Nat.lt_or_ge a (k + 1) with e | e
      · exact HTT.out a ha e
      · obtain rfl : a = k + 1 := by omega
        exact ⟨by rw [← HZG.out]; exact HGO.out, fun b hb => by
          obtain rfl : b = k := by omega
          exact ⟨hkz, by rw [← HZG.out, ← HUG.out, ← hco]; exact h1, h2⟩⟩)
    clear hux hug huA hun huc hwc hbc hkc hZ hco i0
    go_upto_region 17 with fail
    rw [← HWC.out, ← HZE.out]
    clear y0 y1 y2 p0 u0 u1 u2
    go_upto_region 19 with (first
      | (go_at_call 65; refine (HCO.out _).mono ?_; rintro e w8 ⟨rfl, rfl⟩)
      | (go_at_call 66; refine HSB.out.mono ?_; rintro e w8 ⟨⟨r2, rfl, hr2⟩, rfl⟩; have HR2 := Lib.hid hr2; clear hr2))
    cases co with
    | false =>
      go_wp2_with fail
      go_ret
      exact ⟨⟨_, rfl, fun h => by cases h⟩, bthen HB1.out HBC.out⟩
    | true =>
    cases r2 with
    | false =>
      go_wp2_with fail
      go_ret
      exact ⟨⟨_, rfl, fun h => by cases h⟩, bthen HB1.out HBC.out⟩
    | true =>
    by_cases hl : zx ≤ ux
    · have dl : decide (zx ≤ ux) = true := by simp [hl]
      clear hl
      go_wp2_with fail
      go_ret
      exact ⟨⟨_, rfl, fun h => by cases h⟩, bthen HB1.out HBC.out⟩
    have dl : decide (zx ≤ ux) = false := by simp; omega
    have HN2 := Lib.hid (HNXT.out rfl (HR2.out rfl))
    clear hl
    go_wp2_with fail
    go_roundw
    case rel => exact ⟨k + 1 + 1, by omega, by go_num, HN2, HBC⟩
    case measure => simp [intOf]; omega
end Go.Proofs.Ytgaallkdfcckpaa
