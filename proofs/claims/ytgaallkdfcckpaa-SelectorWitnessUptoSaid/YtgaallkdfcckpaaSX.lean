/- Fits of a policy (41), of a manifest (16). The document's Right of a schema of many names. The document's Right of a manifest (17). The document's Same (10), fits (7). -/
import Derived.Test.YtgaallkdfcckpaaSN
import Derived.BigQuiet
import Derived.Deep.RegionHeld3
import Derived.Test.YtgaallkdfcckpaaSO
import Derived.Test.YtgaallkdfcckpaaSP
import Derived.Test.YtgaallkdfcckpaaSL
namespace Go.Proofs.Ytgaallkdfcckpaa
open Go.RowKit Go.Maps Go.Lib Go.Shelf
set_option linter.unusedSimpArgs false
set_option linter.unusedVariables false
set_option maxRecDepth 100000 in
set_option maxHeartbeats 16000000 in
theorem fits41 (p : PZ) (w : World) (hp : PIn w p) : Calls Try.prog 41 #[.agg #[.slice p.tA p.tn p.tc, .slice p.jA p.jn p.jc, .int .i64 p.hor]] w (BoolB w True) := by
  obtain ⟨w1, hw1⟩ : ∃ w1, w1 = w.alloc (.cells #[.slice p.tA p.tn p.tc, .slice p.jA p.jn p.jc, .int .i64 p.hor] 28) := ⟨_, rfl⟩
  have hb1 : Below w.heap.size w w1 := by rw [hw1]; exact bpush (Below.refl _ _) _
  have kP : Blk w1 w.heap.size 28 #[.slice p.tA p.tn p.tc, .slice p.jA p.jn p.jc, .int .i64 p.hor] := by rw [hw1]; exact Blk.new _ _ _
  have HB1 := Lib.hid hb1
  obtain ⟨P, hPe⟩ : ∃ P, P = w.heap.size := ⟨_, rfl⟩
  rw [← hPe] at kP
  have HP := Lib.hid (hp.keep (Nat.le_refl _) hb1)
  have HW1 := Lib.hid hw1
  have HPE := Lib.hid hPe
  obtain ⟨tA, htA⟩ : ∃ y, y = p.tA := ⟨_, rfl⟩
  obtain ⟨tn, htn⟩ : ∃ y, y = p.tn := ⟨_, rfl⟩
  obtain ⟨tc, htc⟩ : ∃ y, y = p.tc := ⟨_, rfl⟩
  obtain ⟨jA, hjA⟩ : ∃ y, y = p.jA := ⟨_, rfl⟩
  obtain ⟨jn, hjn⟩ : ∃ y, y = p.jn := ⟨_, rfl⟩
  obtain ⟨jc, hjc⟩ : ∃ y, y = p.jc := ⟨_, rfl⟩
  have HCE := Lib.hid (fun W (hW : Below w1.heap.size w1 W) => show W.cell? ⟨P, 0, none⟩ = some (.slice tA tn tc) ∧ W.cell? ⟨P, 1, none⟩ = some (.slice jA jn jc) from by
    rw [htA, htn, htc, hjA, hjn, hjc]
    exact ⟨(p_cells (kP.below hW)).1, (p_cells (kP.below hW)).2.1⟩)
  have HTR := Lib.hid (show Row w1 tA (cellsTZ p.T) by rw [htA]; exact HP.out.t.row)
  have HJR := Lib.hid (show Row w1 jA (cellsTZ p.J) by rw [hjA]; exact HP.out.j.row)
  have HTN := Lib.hid (show tn = p.T.length by rw [htn]; exact HP.out.t.len)
  have HJN := Lib.hid (show jn = p.J.length by rw [hjn]; exact HP.out.j.len)
  have HTE := Lib.hid HP.out.t.each
  have HJE := Lib.hid HP.out.j.each
  have htm : tn ≤ 9223372036854775807 := by rw [htn]; exact HP.out.t.max
  have hjm : jn ≤ 9223372036854775807 := by rw [hjn]; exact HP.out.j.max
  obtain ⟨p0, p1⟩ := HCE.out w1 (Below.refl _ _)
  clear hw1 hb1 kP hp hPe htA htn htc hjA hjn hjc
  go_enter Try.func41, Try.ntmps41
  go_upto_region 1 with fail
  rw [← HW1.out, ← HPE.out]
  by_cases h1 : 20 < tn
  · have d1 : decide ((20 : Int) < (tn : Int)) = true := by simp; omega
    go_wp2_with fail
    go_ret
    exact ⟨⟨_, rfl, fun h => by cases h⟩, HB1.out⟩
  have d1 : decide ((20 : Int) < (tn : Int)) = false := by simp; omega
  by_cases h2 : 20 < jn
  · have d2 : decide ((20 : Int) < (jn : Int)) = true := by simp; omega
    go_wp2_with fail
    go_ret
    exact ⟨⟨_, rfl, fun h => by cases h⟩, HB1.out⟩
  have d2 : decide ((20 : Int) < (jn : Int)) = false := by simp; omega
  go_upto_region 4 with fail
  clear p0 p1
  go_loopw [3] (fun vi wr => ∃ k : Nat, k ≤ tn ∧ vi = .int .i64 k ∧ Hid (Below w1.heap.size w1 wr)) (fun vi _ => tn - (intOf vi).toNat)
  case atStart => exact ⟨0, by omega, rfl, Lib.hid (Below.refl _ _)⟩
  case round =>
    obtain ⟨k, hk, rfl, HB⟩ := hrel
    obtain ⟨wo, rfl⟩ : ∃ wo : World, wo = wr := ⟨_, rfl⟩
    obtain ⟨p0, p1⟩ := HCE.out wo HB.out
    by_cases hlt : k < tn
    case neg =>
      obtain rfl : k = tn := by omega
      have hge : ¬ (k : Int) < (k : Int) := by omega
      clear hlt
      go_upto_region 10 with fail
      clear p0 p1
      go_loopw [5] (fun vi wr => ∃ k : Nat, k ≤ jn ∧ vi = .int .i64 k ∧ Hid (Below w1.heap.size w1 wr)) (fun vi _ => jn - (intOf vi).toNat)
      case atStart => exact ⟨0, by omega, rfl, HB⟩
      case round =>
        obtain ⟨k, hk, rfl, HB⟩ := hrel
        obtain ⟨wo, rfl⟩ : ∃ wo : World, wo = wr := ⟨_, rfl⟩
        obtain ⟨p0, p1⟩ := HCE.out wo HB.out
        by_cases hlt : k < jn
        case neg =>
          obtain rfl : k = jn := by omega
          have hge : ¬ (k : Int) < (k : Int) := by omega
          clear hlt
          go_wp2_with fail
          go_ret
          exact ⟨⟨_, rfl, fun _ => trivial⟩, bthen HB1.out HB.out⟩
        case pos =>
        have hkz : k < p.J.length := by have := HJN.out; omega
        have hki : (k : Int) < (jn : Int) := by omega
        have hk0 : (0 : Int) ≤ (k : Int) := by omega
        obtain ⟨b, off, hAe, r0, r1, r2⟩ := tz_cells (HJR.out.keep (Nat.le_refl _) HB.out) hkz
        obtain ⟨zA, hzA⟩ : ∃ y, y = (p.J[k]'hkz).A := ⟨_, rfl⟩
        obtain ⟨zn, hzn⟩ : ∃ y, y = (p.J[k]'hkz).n := ⟨_, rfl⟩
        obtain ⟨zc, hzc⟩ : ∃ y, y = (p.J[k]'hkz).c := ⟨_, rfl⟩
        rw [← hzA, ← hzn, ← hzc] at r2
        have HZS := Lib.hid (show StrsIn wo zA zn zc (p.J[k]'hkz).D by rw [hzA, hzn, hzc]; exact (HJE.out _ (List.getElem_mem _)).keep (Nat.le_refl _) HB.out)
        obtain ⟨r, hr⟩ := bool_of (fitsP (p.J[k]'hkz).D)
        have HFI := Lib.hid (fits_any zA zn zc (p.J[k]'hkz).D wo HZS.out.row HZS.out.len HZS.out.max r hr)
        subst hAe
        clear hzA hzn hzc r0 r1 hr hlt
        cases r with
        | false =>
          go_wp2_with (go_at_call 40; refine HFI.out.mono ?_; rintro e w8 ⟨rfl, rfl⟩)
          go_ret
          exact ⟨⟨_, rfl, fun h => by cases h⟩, bthen HB1.out HB.out⟩
        | true =>
          go_wp2_with (go_at_call 40; refine HFI.out.mono ?_; rintro e w8 ⟨rfl, rfl⟩)
          go_roundw
          case rel => exact ⟨k + 1, by omega, by go_num, HB⟩
          case measure => simp [intOf]; omega
    case pos =>
    have hkz : k < p.T.length := by have := HTN.out; omega
    have hki : (k : Int) < (tn : Int) := by omega
    have hk0 : (0 : Int) ≤ (k : Int) := by omega
    obtain ⟨b, off, hAe, r0, r1, r2⟩ := tz_cells (HTR.out.keep (Nat.le_refl _) HB.out) hkz
    obtain ⟨zA, hzA⟩ : ∃ y, y = (p.T[k]'hkz).A := ⟨_, rfl⟩
    obtain ⟨zn, hzn⟩ : ∃ y, y = (p.T[k]'hkz).n := ⟨_, rfl⟩
    obtain ⟨zc, hzc⟩ : ∃ y, y = (p.T[k]'hkz).c := ⟨_, rfl⟩
    rw [← hzA, ← hzn, ← hzc] at r2
    have HZS := Lib.hid (show StrsIn wo zA zn zc (p.T[k]'hkz).D by rw [hzA, hzn, hzc]; exact (HTE.out _ (List.getElem_mem _)).keep (Nat.le_refl _) HB.out)
    obtain ⟨r, hr⟩ := bool_of (fitsP (p.T[k]'hkz).D)
    have HFI := Lib.hid (fits_any zA zn zc (p.T[k]'hkz).D wo HZS.out.row HZS.out.len HZS.out.max r hr)
    subst hAe
    clear hzA hzn hzc r0 r1 hr hlt
    cases r with
    | false =>
      go_wp2_with (go_at_call 40; refine HFI.out.mono ?_; rintro e w8 ⟨rfl, rfl⟩)
      go_ret
      exact ⟨⟨_, rfl, fun h => by cases h⟩, bthen HB1.out HB.out⟩
    | true =>
      go_wp2_with (go_at_call 40; refine HFI.out.mono ?_; rintro e w8 ⟨rfl, rfl⟩)
      go_roundw
      case rel => exact ⟨k + 1, by omega, by go_num, HB⟩
      case measure => simp [intOf]; omega
set_option maxRecDepth 100000 in
set_option maxHeartbeats 16000000 in
theorem fits16 (m : MZ) (w : World) (hm : MIn w m) : Calls Try.prog 16 #[.agg #[.slice m.dA m.dn m.dc, .slice m.mA m.mn m.mc, .slice m.p.tA m.p.tn m.p.tc, .slice m.p.jA m.p.jn m.p.jc, .int .i64 m.p.hor, .int .i64 m.now, .slice m.eA m.en m.ec, .int .i64 m.cnt, .slice m.sA m.sn m.sc, .slice m.fA m.fn m.fc, .string m.jr, .int .i64 m.nxt]] w (BoolB w True) := by
  obtain ⟨w1, hw1⟩ : ∃ w1, w1 = w.alloc (.cells #[.slice m.dA m.dn m.dc, .slice m.mA m.mn m.mc, .slice m.p.tA m.p.tn m.p.tc, .slice m.p.jA m.p.jn m.p.jc, .int .i64 m.p.hor, .int .i64 m.now, .slice m.eA m.en m.ec, .int .i64 m.cnt, .slice m.sA m.sn m.sc, .slice m.fA m.fn m.fc, .string m.jr, .int .i64 m.nxt] 34) := ⟨_, rfl⟩
  have hb1 : Below w.heap.size w w1 := by rw [hw1]; exact bpush (Below.refl _ _) _
  have kM : Blk w1 w.heap.size 34 #[.slice m.dA m.dn m.dc, .slice m.mA m.mn m.mc, .slice m.p.tA m.p.tn m.p.tc, .slice m.p.jA m.p.jn m.p.jc, .int .i64 m.p.hor, .int .i64 m.now, .slice m.eA m.en m.ec, .int .i64 m.cnt, .slice m.sA m.sn m.sc, .slice m.fA m.fn m.fc, .string m.jr, .int .i64 m.nxt] := by rw [hw1]; exact Blk.new _ _ _
  have HB1 := Lib.hid hb1
  obtain ⟨G, hGe⟩ : ∃ G, G = w.heap.size := ⟨_, rfl⟩
  rw [← hGe] at kM
  have HK := Lib.hid kM
  have HW1 := Lib.hid hw1
  have HGE := Lib.hid hGe
  have HM := Lib.hid (hm.keep (Nat.le_refl _) hb1)
  have HCE := Lib.hid (fun W (hW : Below w1.heap.size w1 W) => m_cells (HK.out.below hW))
  obtain ⟨r1, hr1⟩ := bool_of (fitsP m.D)
  obtain ⟨r2, hr2⟩ := bool_of (fitsP m.M)
  have H1 := Lib.hid (fits_any m.dA m.dn m.dc m.D w1 HM.out.d.row HM.out.d.len HM.out.d.max r1 hr1)
  have H2 := Lib.hid (fits_any m.mA m.mn m.mc m.M w1 HM.out.mm.row HM.out.mm.len HM.out.mm.max r2 hr2)
  have H3 := Lib.hid (fits41 m.p w1 HM.out.pi)
  obtain ⟨d0, d1, d2, d3, d4, d5, d6, d7, d8, d9, d10, d11⟩ := HCE.out w1 (Below.refl _ _)
  have hnn := HM.out.fm
  have hem := HM.out.em
  have hsm := HM.out.sm
  clear hw1 hb1 kM hm hGe hr1 hr2
  go_enter Try.func16, Try.ntmps16
  go_upto_region 1 with fail
  rw [← HW1.out, ← HGE.out]
  go_upto_region 4 with (first
    | (go_at_call 40; with_reducible refine H1.out.mono ?_; rintro e w8 ⟨rfl, rfl⟩)
    | (go_at_call 40; with_reducible refine H2.out.mono ?_; rintro e w8 ⟨rfl, rfl⟩)
    | (go_at_call 41; refine H3.out.mono ?_; rintro e w2 ⟨⟨r3, rfl, -⟩, hb⟩; have HB2 := Lib.hid hb; clear hb))
  clear d0 d1 d2 d3 d4 d5 d6 d7 d8 d9 d10 d11
  obtain ⟨d0, d1, d2, d3, d4, d5, d6, d7, d8, d9, d10, d11⟩ := HCE.out w2 HB2.out
  obtain ⟨en, hen⟩ : ∃ y, y = m.en := ⟨_, rfl⟩
  obtain ⟨sn, hsn⟩ : ∃ y, y = m.sn := ⟨_, rfl⟩
  obtain ⟨fA, hfA⟩ : ∃ y, y = m.fA := ⟨_, rfl⟩
  obtain ⟨fn, hfn⟩ : ∃ y, y = m.fn := ⟨_, rfl⟩
  obtain ⟨fc, hfc⟩ : ∃ y, y = m.fc := ⟨_, rfl⟩
  obtain ⟨js, hjs⟩ : ∃ y, y = m.jr.size := ⟨_, rfl⟩
  have HFR := Lib.hid (show Row w1 fA (cellsS m.F) by rw [hfA]; exact HM.out.f)
  have HFN := Lib.hid (show fn = m.F.length by rw [hfn]; exact HM.out.fl)
  rw [← hen] at d6 hem
  rw [← hsn] at d8 hsm
  rw [← hfA, ← hfn, ← hfc] at d9
  rw [← hfn] at hnn
  have HD9 := Lib.hid (fun W (hW : Below w2.heap.size w2 W) => show W.cell? ⟨G, 9, none⟩ = some (.slice fA fn fc) from cell_on hW d9)
  have HJS := Lib.hid hjs
  clear hen hsn hfA hfn hfc
  cases r1 with
  | false =>
    go_wp2_with fail
    go_ret
    exact ⟨⟨_, rfl, fun h => by cases h⟩, bthen HB1.out HB2.out⟩
  | true =>
  cases r2 with
  | false =>
    go_wp2_with fail
    go_ret
    exact ⟨⟨_, rfl, fun h => by cases h⟩, bthen HB1.out HB2.out⟩
  | true =>
  cases r3 with
  | false =>
    go_wp2_with fail
    go_ret
    exact ⟨⟨_, rfl, fun h => by cases h⟩, bthen HB1.out HB2.out⟩
  | true =>
  by_cases h1 : 20 < en
  · have e1 : decide ((20 : Int) < (en : Int)) = true := by simp; omega
    go_wp2_with fail
    go_ret
    exact ⟨⟨_, rfl, fun h => by cases h⟩, bthen HB1.out HB2.out⟩
  have e1 : decide ((20 : Int) < (en : Int)) = false := by simp; omega
  by_cases h2 : 20 < sn
  · have e2 : decide ((20 : Int) < (sn : Int)) = true := by simp; omega
    go_wp2_with fail
    go_ret
    exact ⟨⟨_, rfl, fun h => by cases h⟩, bthen HB1.out HB2.out⟩
  have e2 : decide ((20 : Int) < (sn : Int)) = false := by simp; omega
  by_cases h3 : 60 < fn
  · have e3 : decide ((60 : Int) < (fn : Int)) = true := by simp; omega
    go_wp2_with fail
    go_ret
    exact ⟨⟨_, rfl, fun h => by cases h⟩, bthen HB1.out HB2.out⟩
  have e3 : decide ((60 : Int) < (fn : Int)) = false := by simp; omega
  by_cases h4 : 60 < js
  · have e4 : decide ((60 : Int) < (m.jr.size : Int)) = true := by rw [← hjs]; simp; omega
    clear hjs
    go_wp2_with fail
    go_ret
    exact ⟨⟨_, rfl, fun h => by cases h⟩, bthen HB1.out HB2.out⟩
  have e4 : decide ((60 : Int) < (m.jr.size : Int)) = false := by rw [← hjs]; simp; omega
  clear hjs
  go_upto_region 7 with fail
  clear d0 d1 d2 d3 d4 d5 d6 d7 d8 d9 d10 d11
  go_loopw [6] (fun vi wr => ∃ k : Nat, k ≤ fn ∧ vi = .int .i64 k ∧ wr = w2) (fun vi _ => fn - (intOf vi).toNat)
  case atStart => exact ⟨0, by omega, rfl, rfl⟩
  case round =>
    obtain ⟨k, hk, rfl, rfl⟩ := hrel
    have d9 := HD9.out wr (Below.refl _ _)
    by_cases hlt : k < fn
    case neg =>
      obtain rfl : k = fn := by omega
      have hge : ¬ (k : Int) < (k : Int) := by omega
      clear hlt
      go_wp2_with fail
      go_ret
      exact ⟨⟨_, rfl, fun _ => trivial⟩, bthen HB1.out HB2.out⟩
    case pos =>
    have hkz : k < m.F.length := by have := HFN.out; omega
    have hki : (k : Int) < (fn : Int) := by omega
    have hk0 : (0 : Int) ≤ (k : Int) := by omega
    obtain ⟨b, off, hAe, r0, r1, r2, r3⟩ := sz_cells (HFR.out.keep (Nat.le_refl _) HB2.out) hkz
    obtain ⟨nm, hnm⟩ : ∃ y, y = (m.F[k]'hkz).name := ⟨_, rfl⟩
    rw [← hnm] at r0
    subst hAe
    clear hnm r1 r2 r3 hlt
    by_cases hz : 60 < nm.size
    · have e5 : decide ((60 : Int) < (nm.size : Int)) = true := by simp; omega
      clear hz
      go_wp2_with fail
      go_ret
      exact ⟨⟨_, rfl, fun h => by cases h⟩, bthen HB1.out HB2.out⟩
    · have e5 : decide ((60 : Int) < (nm.size : Int)) = false := by simp; omega
      clear hz
      go_wp2_with fail
      go_roundw
      case rel => exact ⟨k + 1, by omega, by go_num, by first | rfl | trivial⟩
      case measure => simp [intOf]; omega
end Go.Proofs.Ytgaallkdfcckpaa
namespace Go.Proofs.Ytgaallkdfcckpaa
open Go.RowKit
set_option linter.unusedSimpArgs false
set_option linter.unusedVariables false
set_option maxRecDepth 100000 in
set_option maxHeartbeats 8000000 in
theorem refright_big (A B : Option Addr) (n c m d : Nat) (L M : List ByteArray) (w : World) (hA : Row w A (texts L)) (hB : Row w B (texts M)) (hn : n = L.length) (hm : m = M.length) (hnc : n ≤ c) (hmd : m ≤ d) (ha : A = none → c = 0) (hb : B = none → d = 0)
    (hL : ∀ s ∈ L, s.size ≤ 9223372036854775807) (hM : ∀ s ∈ M, s.size ≤ 9223372036854775807) (hn2 : n ≤ 1100000) (hm2 : m ≤ 1100000) (r : Bool) (hr : r = true ↔ rightP L M) :
    Calls Try.prog 42 #[.agg #[.slice A n c, .slice B m d]] w fun e w' => e = .returned (.bool r) ∧ Below w.heap.size w w' := by
  have HN := Lib.hid hn
  have HM := Lib.hid hm
  have Ha := Lib.hid ha
  have Hb := Lib.hid hb
  have HR := Lib.hid hr
  have HL := Lib.hid (show ∀ s ∈ L ++ M, s.size ≤ 9223372036854775807 from fun s hs => (List.mem_append.1 hs).elim (hL s) (hM s))
  have HF := Lib.hid (show ¬ rightP L M → r = false from fun h => by
    cases r with
    | false => rfl
    | true => exact absurd (hr.1 rfl) h)
  obtain ⟨W0, hW0⟩ : ∃ W0, W0 = w.alloc (.cells #[.slice A n c, .slice B m d] 24) := ⟨_, rfl⟩
  have hb0 : Below w.heap.size w W0 := by rw [hW0]; exact bpush (Below.refl _ _) _
  have g0 : W0.cell? ⟨w.heap.size, 0, none⟩ = some (.slice A n c) := by rw [hW0]; simp
  have j0 : W0.cell? ⟨w.heap.size, 1, none⟩ = some (.slice B m d) := by rw [hW0]; simp
  have hbig : w.heap.size + 1 = W0.heap.size := by rw [hW0]; simp
  have HBIG := Lib.hid hbig
  have HW0 := Lib.hid hW0
  have HB := Lib.hid hb0
  have HA0 := Lib.hid (hA.keep (Nat.le_refl _) hb0)
  have HB0 := Lib.hid (hB.keep (Nat.le_refl _) hb0)
  clear hW0 hb0 hA hB hn hm ha hb hL hM hr hbig
  go_enter Try.func42, Try.ntmps42
  go_wp2_with fail
  rw [← HW0.out]
  go_region_held3 (fun w' => (w'.cell? ⟨w.heap.size, 0, none⟩ = some (.slice A n c) ∧ w'.cell? ⟨w.heap.size, 1, none⟩ = some (.slice B m d)) ∧ Below W0.heap.size W0 w')
    (first
      | exact ⟨⟨g0, j0⟩, below_drewN (Below.refl _ _) 1⟩
      | exact ⟨⟨cell_on (below_drewN (bpush (Below.refl _ _) _) 1) g0, cell_on (below_drewN (bpush (Below.refl _ _) _) 1) j0⟩, below_drewN (bpush (Below.refl _ _) _) 1⟩
      | exact ⟨⟨cell_on hbz2 g0, cell_on hbz2 j0⟩, hbz2⟩
      | exact ⟨⟨cell_on hbz g0, cell_on hbz j0⟩, hbz⟩)
    (first
      | (refine step_append_texts rfl _ _ rfl W0.heap.size (.slice (some ⟨W0.heap.size, 0, none⟩) 0 0) 0 [] rfl A n c L rfl ?own ?row HN.out hnc Ha.out ?q1 ?q2 ?_
         case own => exact own_dr (own_empty (Nat.le_refl _)) 1
         case row => exact row_dr (HA0.out.keep (Nat.le_refl _) (bpush (Below.refl _ _) _)) 1
         case q1 => omega
         case q2 => simp
         intro v1 w1 ho1 hg1 _
         have hbz : Below W0.heap.size W0 w1 := (below_drewN (bpush (Below.refl _ _) _) 1).trans (grown_below (own_dr (own_empty (Nat.le_refl _)) 1) hg1 (by simp)))
      | (refine step_append_texts rfl _ _ rfl W0.heap.size v1 (0 + n) ([] ++ texts L) rfl B m d M rfl ho1 ?row HM.out hmd Hb.out ?q1 ?q2 ?_
         case row => exact HB0.out.keep (Nat.le_refl _) hbz
         case q1 => omega
         case q2 => exact hbz.size
         intro v2 w2 ho2 hg2 _
         have hbz2 : Below W0.heap.size W0 w2 := hbz.trans (grown_below ho1 hg2 hbz.size)))
  obtain ⟨A3, c3, rfl, hr3, hc3, _⟩ := own_slice ho2
  have HR3 := Lib.hid (show Row w2 A3 (texts (L ++ M)) by rw [List.nil_append, texts_append] at hr3; exact hr3)
  obtain ⟨⟨k0, k1⟩, _⟩ : (w2.cell? ⟨w.heap.size, 0, none⟩ = some (.slice A n c) ∧ w2.cell? ⟨w.heap.size, 1, none⟩ = some (.slice B m d)) ∧ Below W0.heap.size W0 w2 := by assumption
  obtain ⟨t, ht⟩ : ∃ t, t = 0 + n + m := ⟨_, rfl⟩
  have HT := Lib.hid (show t = (L ++ M).length by rw [List.length_append, ← HN.out, ← HM.out, ht]; omega)
  have ht2 : t ≤ 9223372036854775807 := by omega
  have HBZ := Lib.hid hbz2
  rw [← ht] at hc3 ⊢
  obtain ⟨U, hU⟩ : ∃ U, U = L ++ M := ⟨_, rfl⟩
  rw [← hU] at HR3 HT HL
  have HU := Lib.hid hU
  clear ho1 hg1 ho2 hg2 hbz hbz2 hr3 g0 j0 ht hU
  go_wp2_with fail
  go_loopw [4] (fun i wr => ∃ k : Nat, k ≤ t ∧ i = .int .i64 k ∧ Hid (Below w2.heap.size w2 wr) ∧ Hid (∀ (j : Nat) (h : j < U.length), j < k → nameP U[j]) ∧ Hid (∀ (i j : Nat) (hij : i < j) (h : j < U.length), j < k → U[i]'(Nat.lt_trans hij h) ≠ U[j])) (fun i _ => t - (intOf i).toNat)
  case atStart => exact ⟨0, Nat.zero_le _, rfl, Lib.hid (Below.refl _ _), Lib.hid (fun j _ h => by omega), Lib.hid (fun i j _ _ h => by omega)⟩
  case round =>
    obtain ⟨k, hk, rfl, HBW, HK1, HK2⟩ := hrel
    by_cases hlt : k < t
    · have hkz : k < U.length := by have := HT.out; omega
      have hki : (k : Int) < (t : Int) := by omega
      have hk0 : (0 : Int) ≤ (k : Int) := by omega
      obtain ⟨b, off, hAe, c0⟩ := text_cell (HR3.out.keep (Nat.le_refl _) HBW.out) hkz
      obtain ⟨s, hs⟩ : ∃ s, s = U[k] := ⟨_, rfl⟩
      rw [← hs] at c0
      have HS := Lib.hid hs
      obtain ⟨q, hq⟩ := bool_of (nameP s)
      have HQ := Lib.hid hq
      subst hAe
      clear hq hs
      go_wp2_with fail
      refine (refname_any s _ (by rw [HS.out]; exact HL.out _ (List.getElem_mem _)) q HQ.out).mono ?_
      rintro e w3 ⟨rfl, hb3⟩
      have HB3 := Lib.hid (bthen HBW.out hb3)
      have c1 := cell_on hb3 c0
      clear hb3 c0
      cases q with
      | false =>
        obtain rfl : r = false := HF.out fun h => by
          have := h.2.2.2.1 s (by rw [HS.out, ← HU.out]; exact List.getElem_mem _)
          have := HQ.out.2 this; cases this
        clear hlt
        go_wp2_with fail
        go_ret
        exact ⟨rfl, bthen HB.out (bthen HBZ.out HB3.out)⟩
      | true =>
        have HNM := Lib.hid (HQ.out.1 rfl)
        go_wp2_with fail
        go_loopw [6] (fun i wr' => ∃ p : Nat, p ≤ k ∧ i = .int .i64 p ∧ Hid (Below w3.heap.size w3 wr') ∧ Hid (∀ (j : Nat) (h : j < k), U[j] ≠ s ∨ p ≤ j)) (fun i _ => k - (intOf i).toNat)
        case atStart => exact ⟨0, Nat.zero_le _, rfl, Lib.hid (Below.refl _ _), Lib.hid (fun j _ => .inr (Nat.zero_le _))⟩
        case round =>
          obtain ⟨p, hp, rfl, HBP, HPP⟩ := hrel
          by_cases hpk : p < k
          · have hpz : p < U.length := by omega
            have hpi : (p : Int) < (k : Int) := by omega
            have hpt : (p : Int) < (t : Int) := by omega
            have hp0 : (0 : Int) ≤ (p : Int) := by omega
            obtain ⟨b', off', he, cp⟩ := text_cell (HR3.out.keep (Nat.le_refl _) (HB3.out.trans (HBP.out.mono HB3.out.size))) hpz
            cases he
            have ck := cell_on HBP.out c1
            obtain ⟨x, hx⟩ : ∃ x, x = U[p] := ⟨_, rfl⟩
            rw [← hx] at cp
            have HX := Lib.hid hx
            clear hx c1
            by_cases hxs : x = s
            · subst hxs
              obtain rfl : r = false := HF.out fun h => by
                have := h.2.2.2.2 p k hpk (by rw [← HU.out]; exact hkz)
                have e1 := HX.out
                have e2 := HS.out
                have e3 := HU.out
                subst e3
                exact this (e1.symm.trans e2)
              clear hlt hpk
              go_wp2_with fail
              go_quiet (fail)
              go_wp2_with fail
              go_ret
              exact ⟨rfl, below_drewN (bthen HB.out (bthen HBZ.out (bthen HB3.out HBP.out))) _⟩
            · have hne := str_ne hxs
              have HP2 := Lib.hid (show ∀ (j : Nat) (h : j < k), U[j] ≠ s ∨ p + 1 ≤ j from fun j h => by
                rcases HPP.out j h with e | e
                · exact .inl e
                · rcases Nat.eq_or_lt_of_le e with e | e
                  · subst e; exact .inl (by rw [← HX.out]; exact hxs)
                  · exact .inr e)
              clear hlt hpk hxs
              go_wp2_with fail
              go_quiet (fail)
              go_wp2_with fail
              go_roundw
              case rel => exact ⟨p + 1, by omega, by go_num, Lib.hid (below_drewN HBP.out _), HP2⟩
              case measure => simp [intOf]; omega
          · have hge : ¬ (p : Int) < (k : Int) := by omega
            have HK1' := Lib.hid (show ∀ (j : Nat) (h : j < U.length), j < k + 1 → nameP U[j] from fun j h hj => by
              rcases Nat.lt_or_ge j k with e | e
              · exact HK1.out j h e
              · obtain rfl : j = k := by omega
                rw [← HS.out]; exact HNM.out)
            have HK2' := Lib.hid (show ∀ (i j : Nat) (hij : i < j) (h : j < U.length), j < k + 1 → U[i]'(Nat.lt_trans hij h) ≠ U[j] from fun i j hij h hj => by
              rcases Nat.lt_or_ge j k with e | e
              · exact HK2.out i j hij h e
              · obtain rfl : j = k := by omega
                rcases HPP.out i hij with e | e
                · rw [← HS.out]; exact e
                · omega)
            have HBN := Lib.hid (HB3.out.trans (HBP.out.mono HB3.out.size))
            clear hlt hpk c1
            go_wp2_with fail
            go_roundw
            case rel => exact ⟨k + 1, by omega, by go_num, HBN, HK1', HK2'⟩
            case measure => simp [intOf]; omega
    · have hge : ¬ (k : Int) < (t : Int) := by omega
      have HNP := Lib.hid (show namesP (L ++ M) by
        rw [← HU.out]
        exact ⟨fun s hs => by
          obtain ⟨j, hj, rfl⟩ := List.mem_iff_getElem.1 hs
          exact HK1.out j hj (by have := HT.out; omega), fun i j hij h => HK2.out i j hij h (by have := HT.out; omega)⟩)
      have l0 := cell_on HBW.out k0
      have l1 := cell_on HBW.out k1
      have HBE := Lib.hid (show Below w.heap.size w wr from HB.out.trans ((HBZ.out.trans (HBW.out.mono HBZ.out.size)).mono (by have := HBIG.out; omega)))
      clear k0 k1 hlt
      by_cases h1 : 1 ≤ n
      · have d1 : decide ((1 : Int) ≤ (n : Int)) = true := by simp; omega
        by_cases h2 : n ≤ 6
        · have d2 : decide ((n : Int) ≤ 6) = true := by simp; omega
          by_cases h3 : m ≤ 4
          · have d3 : decide ((m : Int) ≤ 4) = true := by simp; omega
            obtain rfl : r = true := HR.out.2 ⟨by rw [← HN.out]; exact h1, by rw [← HN.out]; exact h2, by rw [← HM.out]; exact h3, HNP.out⟩
            clear h1 h2 h3
            go_wp2_with fail
            go_ret
            exact ⟨rfl, HBE.out⟩
          · have d3 : decide ((m : Int) ≤ 4) = false := by simp; omega
            obtain rfl : r = false := HF.out fun h => h3 (by have := h.2.2.1; rw [HM.out]; exact this)
            clear h1 h2 h3
            go_wp2_with fail
            go_ret
            exact ⟨rfl, HBE.out⟩
        · have d2 : decide ((n : Int) ≤ 6) = false := by simp; omega
          obtain rfl : r = false := HF.out fun h => h2 (by have := h.2.1; rw [HN.out]; exact this)
          clear h1 h2
          go_wp2_with fail
          go_ret
          exact ⟨rfl, HBE.out⟩
      · have d1 : decide ((1 : Int) ≤ (n : Int)) = false := by simp; omega
        obtain rfl : r = false := HF.out fun h => h1 (by have := h.1; rw [HN.out]; exact this)
        clear h1
        go_wp2_with fail
        go_ret
        exact ⟨rfl, HBE.out⟩
end Go.Proofs.Ytgaallkdfcckpaa
namespace Go.Proofs.Ytgaallkdfcckpaa
open Go.RowKit Go.Maps Go.Lib Go.Shelf
set_option linter.unusedSimpArgs false
set_option linter.unusedVariables false
structure RightM (m : MZ) : Prop where
  right : rightP m.D m.M
  pol : PolF m.p
  el : m.E.length = m.p.T.length
  e0 : ∀ (i : Nat) (h : i < m.E.length), 0 ≤ m.E[i]
  fall : ∀ (i : Nat) (h : i + 1 < m.E.length), m.E[i + 1] ≤ m.E[i]'(by omega)
  files : FilesOk m.p m.F
def EdgeTo (E : List Int) (i : Nat) : Prop := ∀ (a : Nat) (h : a < E.length), a < i → 0 ≤ E[a] ∧ ∀ b, a = b + 1 → ∃ hb : b < E.length, E[a] ≤ E[b]
set_option maxRecDepth 100000 in
set_option maxHeartbeats 64000000 in
theorem right17 (m : MZ) (w : World) (hm : MIn w m) (hd1 : m.dn ≤ 1100000) (hd2 : m.mn ≤ 1100000) (hds : ∀ s ∈ m.D, s.size ≤ 9223372036854775807) (hms : ∀ s ∈ m.M, s.size ≤ 9223372036854775807) : Calls Try.prog 17 #[.agg #[.slice m.dA m.dn m.dc, .slice m.mA m.mn m.mc, .slice m.p.tA m.p.tn m.p.tc, .slice m.p.jA m.p.jn m.p.jc, .int .i64 m.p.hor, .int .i64 m.now, .slice m.eA m.en m.ec, .int .i64 m.cnt, .slice m.sA m.sn m.sc, .slice m.fA m.fn m.fc, .string m.jr, .int .i64 m.nxt]] w (BoolB w (RightM m)) := by
  obtain ⟨w1, hw1⟩ : ∃ w1, w1 = w.alloc (.cells #[.slice m.dA m.dn m.dc, .slice m.mA m.mn m.mc, .slice m.p.tA m.p.tn m.p.tc, .slice m.p.jA m.p.jn m.p.jc, .int .i64 m.p.hor, .int .i64 m.now, .slice m.eA m.en m.ec, .int .i64 m.cnt, .slice m.sA m.sn m.sc, .slice m.fA m.fn m.fc, .string m.jr, .int .i64 m.nxt] 34) := ⟨_, rfl⟩
  have hb1 : Below w.heap.size w w1 := by rw [hw1]; exact bpush (Below.refl _ _) _
  have kM : Blk w1 w.heap.size 34 #[.slice m.dA m.dn m.dc, .slice m.mA m.mn m.mc, .slice m.p.tA m.p.tn m.p.tc, .slice m.p.jA m.p.jn m.p.jc, .int .i64 m.p.hor, .int .i64 m.now, .slice m.eA m.en m.ec, .int .i64 m.cnt, .slice m.sA m.sn m.sc, .slice m.fA m.fn m.fc, .string m.jr, .int .i64 m.nxt] := by rw [hw1]; exact Blk.new _ _ _
  have HB1 := Lib.hid hb1
  obtain ⟨G, hGe⟩ : ∃ G, G = w.heap.size := ⟨_, rfl⟩
  rw [← hGe] at kM
  have HK := Lib.hid kM
  have HW1 := Lib.hid hw1
  have HGE := Lib.hid hGe
  have HM := Lib.hid (hm.keep (Nat.le_refl _) hb1)
  obtain ⟨tn, htn⟩ : ∃ y, y = m.p.tn := ⟨_, rfl⟩
  obtain ⟨eA, heA⟩ : ∃ y, y = m.eA := ⟨_, rfl⟩
  obtain ⟨en, hen⟩ : ∃ y, y = m.en := ⟨_, rfl⟩
  obtain ⟨ec, hec⟩ : ∃ y, y = m.ec := ⟨_, rfl⟩
  obtain ⟨sA, hsA⟩ : ∃ y, y = m.sA := ⟨_, rfl⟩
  obtain ⟨sn, hsn⟩ : ∃ y, y = m.sn := ⟨_, rfl⟩
  obtain ⟨sc, hsc⟩ : ∃ y, y = m.sc := ⟨_, rfl⟩
  obtain ⟨mn, hmn⟩ : ∃ y, y = m.mn := ⟨_, rfl⟩
  have HCE := Lib.hid (fun W (hW : Below w1.heap.size w1 W) => show W.cell? ⟨G, 0, none⟩ = some (.slice m.dA m.dn m.dc) ∧ W.cell? ⟨G, 1, none⟩ = some (.slice m.mA mn m.mc) ∧ W.cell? ⟨G, 2, none⟩ = some (.slice m.p.tA tn m.p.tc) ∧ W.cell? ⟨G, 3, none⟩ = some (.slice m.p.jA m.p.jn m.p.jc) ∧ W.cell? ⟨G, 4, none⟩ = some (.int .i64 m.p.hor) ∧ W.cell? ⟨G, 5, none⟩ = some (.int .i64 m.now) ∧ W.cell? ⟨G, 6, none⟩ = some (.slice eA en ec) ∧ W.cell? ⟨G, 7, none⟩ = some (.int .i64 m.cnt) ∧ W.cell? ⟨G, 8, none⟩ = some (.slice sA sn sc) ∧ W.cell? ⟨G, 9, none⟩ = some (.slice m.fA m.fn m.fc) ∧ W.cell? ⟨G, 10, none⟩ = some (.string m.jr) ∧ W.cell? ⟨G, 11, none⟩ = some (.int .i64 m.nxt) from by
    rw [htn, heA, hen, hec, hsA, hsn, hsc, hmn]; exact m_cells (HK.out.below hW))
  obtain ⟨rr, hrr⟩ := bool_of (rightP m.D m.M)
  have H42 := Lib.hid (show Calls Try.prog 42 #[.agg #[.slice m.dA m.dn m.dc, .slice m.mA mn m.mc]] w1 fun e w' => e = .returned (.bool rr) ∧ Below w1.heap.size w1 w' from by
    rw [hmn]
    exact refright_big m.dA m.mA m.dn m.dc m.mn m.mc m.D m.M w1 HM.out.d.row HM.out.mm.row HM.out.d.len HM.out.mm.len HM.out.d.cap HM.out.mm.cap HM.out.d.nil HM.out.mm.nil hds hms hd1 hd2 rr hrr)
  have H43 := Lib.hid (fun W (hW : Below w1.heap.size w1 W) => show Calls Try.prog 43 #[.agg #[.slice m.dA m.dn m.dc, .slice m.mA mn m.mc], .agg #[.slice m.p.tA tn m.p.tc, .slice m.p.jA m.p.jn m.p.jc, .int .i64 m.p.hor]] W (CkP W (PolF m.p)) from by
    rw [htn]
    exact check43 m.dA m.mA m.dn m.dc mn m.mc m.D m.M m.p W (HM.out.d.keep (Nat.le_refl _) hW) (HM.out.pi.keep (Nat.le_refl _) hW))
  have H45 := Lib.hid (fun W (hW : Below w1.heap.size w1 W) => show Calls Try.prog 45 #[.agg #[.slice m.dA m.dn m.dc, .slice m.mA mn m.mc, .slice m.p.tA tn m.p.tc, .slice m.p.jA m.p.jn m.p.jc, .int .i64 m.p.hor, .int .i64 m.now, .slice eA en ec, .int .i64 m.cnt, .slice sA sn sc, .slice m.fA m.fn m.fc, .string m.jr, .int .i64 m.nxt]] W (BoolB W (FilesOk m.p m.F)) from by
    rw [htn, heA, hen, hec, hsA, hsn, hsc, hmn]
    exact files45 m W (HM.out.keep (Nat.le_refl _) hW))
  have H44 := Lib.hid (fun a b c W => within_any a b c W)
  have HER := Lib.hid (show Row w1 eA (m.E.map (Value.int .i64)) by rw [heA]; exact HM.out.e)
  have HEN := Lib.hid (show en = m.E.length by rw [hen]; exact HM.out.el)
  have hem : en ≤ 9223372036854775807 := by rw [hen]; exact HM.out.em
  have HSR := Lib.hid (show Row w1 sA (m.S.map (Value.int .i64)) by rw [hsA]; exact HM.out.s)
  have HSN := Lib.hid (show sn = m.S.length by rw [hsn]; exact HM.out.sl)
  have hsm : sn ≤ 9223372036854775807 := by rw [hsn]; exact HM.out.sm
  have HTN := Lib.hid (show tn = m.p.T.length by rw [htn]; exact HM.out.pi.t.len)
  have HRR := Lib.hid hrr
  have HW1 := Lib.hid (show w1 = w.alloc (.cells #[.slice m.dA m.dn m.dc, .slice m.mA mn m.mc, .slice m.p.tA tn m.p.tc, .slice m.p.jA m.p.jn m.p.jc, .int .i64 m.p.hor, .int .i64 m.now, .slice eA en ec, .int .i64 m.cnt, .slice sA sn sc, .slice m.fA m.fn m.fc, .string m.jr, .int .i64 m.nxt] 34) by rw [htn, heA, hen, hec, hsA, hsn, hsc, hmn]; exact hw1)
  have HREN := Lib.hid (And.intro htn (And.intro heA (And.intro hen (And.intro hec (And.intro hsA (And.intro hsn (And.intro hsc hmn)))))))
  obtain ⟨d0, d1, d2, d3, d4, d5, d6, d7, d8, d9, d10, d11⟩ := HCE.out w1 (Below.refl _ _)
  clear hw1 hb1 kM hm hGe htn heA hen hec hsA hsn hsc hmn hrr hd1 hd2
  go_enter Try.func17, Try.ntmps17
  go_upto_region 1 with fail
  rw [← HREN.out.1, ← HREN.out.2.1, ← HREN.out.2.2.1, ← HREN.out.2.2.2.1, ← HREN.out.2.2.2.2.1, ← HREN.out.2.2.2.2.2.1, ← HREN.out.2.2.2.2.2.2.1, ← HREN.out.2.2.2.2.2.2.2]
  rw [← HW1.out, ← HGE.out]
  go_upto_region 2 with (go_at_call 42; refine H42.out.mono ?_; rintro e w2 ⟨rfl, hb⟩; have HB2 := Lib.hid hb; clear hb)
  clear d0 d1 d2 d3 d4 d5 d6 d7 d8 d9 d10 d11
  obtain ⟨d0, d1, d2, d3, d4, d5, d6, d7, d8, d9, d10, d11⟩ := HCE.out w2 HB2.out
  cases rr with
  | false =>
    go_wp2_with fail
    go_ret
    exact ⟨⟨_, rfl, fun h => by cases h⟩, bthen HB1.out HB2.out⟩
  | true =>
  have H43' := Lib.hid (H43.out w2 HB2.out)
  by_cases he : en = tn
  case neg =>
    have heb : ((en : Int) != (tn : Int)) = true := by simp; omega
    clear he
    go_upto_region 3 with (go_at_call 43; refine H43'.out.mono ?_; rintro e w3 ⟨⟨v, rfl, hv⟩, hb⟩; have HV := Lib.hid hv; have HB3 := Lib.hid (bthen HB2.out hb); obtain ⟨x0, x1, x2, x3, x4, x5, x6, x7, x8, x9, x10, x11⟩ := HCE.out w3 HB3.out; clear hb hv d0 d1 d2 d3 d4 d5 d6 d7 d8 d9 d10 d11; by_cases hv0 : v = 0)
    all_goals (go_wp2_with fail; go_ret; exact ⟨⟨_, rfl, fun h => by cases h⟩, bthen HB1.out HB3.out⟩)
  have heb : ((en : Int) != (tn : Int)) = false := by simp; omega
  by_cases hs : sn = mn
  case neg =>
    have hsb : ((sn : Int) != (mn : Int)) = true := by simp; omega
    clear hs he
    go_upto_region 3 with (go_at_call 43; refine H43'.out.mono ?_; rintro e w3 ⟨⟨v, rfl, hv⟩, hb⟩; have HV := Lib.hid hv; have HB3 := Lib.hid (bthen HB2.out hb); obtain ⟨x0, x1, x2, x3, x4, x5, x6, x7, x8, x9, x10, x11⟩ := HCE.out w3 HB3.out; clear hb hv d0 d1 d2 d3 d4 d5 d6 d7 d8 d9 d10 d11; by_cases hv0 : v = 0)
    all_goals (go_wp2_with fail; go_ret; exact ⟨⟨_, rfl, fun h => by cases h⟩, bthen HB1.out HB3.out⟩)
  have hsb : ((sn : Int) != (mn : Int)) = false := by simp; omega
  have HEQ := Lib.hid (And.intro he hs)
  clear hs he
  go_upto_region 3 with (go_at_call 43; refine H43'.out.mono ?_; rintro e w3 ⟨⟨v, rfl, hv⟩, hb⟩; have HV := Lib.hid hv; have HB3 := Lib.hid (bthen HB2.out hb); obtain ⟨x0, x1, x2, x3, x4, x5, x6, x7, x8, x9, x10, x11⟩ := HCE.out w3 HB3.out; clear hb hv d0 d1 d2 d3 d4 d5 d6 d7 d8 d9 d10 d11; by_cases hv0 : v = 0)
  all_goals first | (go_wp2_with fail; go_ret; exact ⟨⟨_, rfl, fun h => by cases h⟩, bthen HB1.out HB3.out⟩) | skip
  have HPO := Lib.hid (HV.out hv0)
  subst hv0
  clear x0 x1 x2 x3 x4 x5 x6 x7 x8 x9 x10 x11
  go_loopw [4, 5] (fun v4 vi wr => ∃ (i : Nat) (l : Int), i ≤ en ∧ vi = .int .i64 i ∧ v4 = .int .i64 l ∧ Hid (EdgeTo m.E i) ∧ Hid (∀ b, i = b + 1 → ∃ hb : b < m.E.length, l = m.E[b]) ∧ wr = w3) (fun _ vi _ => en - (intOf vi).toNat)
  case atStart => exact ⟨0, _, by omega, rfl, rfl, Lib.hid (fun a _ h => by omega), Lib.hid (fun b h => by omega), rfl⟩
  case round =>
    obtain ⟨i, l, hi, rfl, rfl, HED, HLA, rfl⟩ := hrel
    obtain ⟨d0, d1, d2, d3, d4, d5, d6, d7, d8, d9, d10, d11⟩ := HCE.out wr HB3.out
    by_cases hlt : i < en
    case neg =>
      obtain rfl : i = en := by omega
      have hge : ¬ (i : Int) < (i : Int) := by omega
      clear hlt
      go_upto_region 13 with fail
      obtain ⟨wo, rfl⟩ : ∃ wo : World, wo = wr := ⟨_, rfl⟩
      clear d0 d1 d2 d3 d4 d5 d6 d7 d8 d9 d10 d11
      go_loopw [7] (fun vj wr => ∃ j : Nat, j ≤ sn ∧ vj = .int .i64 j ∧ wr = wo) (fun vj _ => sn - (intOf vj).toNat)
      case atStart => exact ⟨0, by omega, rfl, rfl⟩
      case round =>
        obtain ⟨j, hj, rfl, rfl⟩ := hrel
        obtain ⟨d0, d1, d2, d3, d4, d5, d6, d7, d8, d9, d10, d11⟩ := HCE.out wr HB3.out
        by_cases hltj : j < sn
        case neg =>
          obtain rfl : j = sn := by omega
          have hgej : ¬ (j : Int) < (j : Int) := by omega
          have HOK := Lib.hid (fun (hf : FilesOk m.p m.F) => show RightM m from ⟨HRR.out.1 (by trivial), HPO.out, by have h1 := HEQ.out.1; have := HEN.out; have := HTN.out; omega, fun a h => (HED.out a h (by have := HEN.out; omega)).1, fun a h => by
            obtain ⟨hb, hl⟩ := (HED.out (a + 1) h (by have := HEN.out; omega)).2 a rfl
            exact hl, hf⟩)
          have HA := Lib.hid (H44.out m.now 0 1099511627776 wr)
          have HC := Lib.hid (H44.out m.cnt 0 1048576 wr)
          have HX := Lib.hid (H44.out m.nxt 0 1073741824 wr)
          obtain ⟨ra, hra⟩ : ∃ r, r = (decide (0 ≤ m.now) && decide (m.now ≤ 1099511627776)) := ⟨_, rfl⟩
          obtain ⟨rc, hrc⟩ : ∃ r, r = (decide (0 ≤ m.cnt) && decide (m.cnt ≤ 1048576)) := ⟨_, rfl⟩
          obtain ⟨rx, hrx⟩ : ∃ r, r = (decide (0 ≤ m.nxt) && decide (m.nxt ≤ 1073741824)) := ⟨_, rfl⟩
          rw [← hra] at HA
          rw [← hrc] at HC
          rw [← hrx] at HX
          have HF := Lib.hid (H45.out wr HB3.out)
          clear hra hrc hrx hltj
          cases ra
          case false =>
            go_upto_region 21 with (first
              | (go_at_call 44; with_reducible refine HA.out.mono ?_; rintro e w8 ⟨rfl, rfl⟩)
              | (go_at_call 44; with_reducible refine HX.out.mono ?_; rintro e w8 ⟨rfl, rfl⟩)
              | (go_at_call 45; refine HF.out.mono ?_; rintro e w9 ⟨⟨rf, rfl, hrf⟩, hb⟩; have HB9 := Lib.hid (bthen HB3.out hb); clear hb))
            go_wp2_with fail
            go_ret
            exact ⟨⟨_, rfl, fun h => by cases h⟩, bthen HB1.out HB9.out⟩
          case true =>
            cases rc
            case false =>
              go_upto_region 21 with (first
                | (go_at_call 44; with_reducible refine HA.out.mono ?_; rintro e w8 ⟨rfl, rfl⟩)
                | (go_at_call 44; with_reducible refine HC.out.mono ?_; rintro e w8 ⟨rfl, rfl⟩)
                | (go_at_call 44; with_reducible refine HX.out.mono ?_; rintro e w8 ⟨rfl, rfl⟩)
                | (go_at_call 45; refine HF.out.mono ?_; rintro e w9 ⟨⟨rf, rfl, hrf⟩, hb⟩; have HB9 := Lib.hid (bthen HB3.out hb); clear hb))
              go_wp2_with fail
              go_ret
              exact ⟨⟨_, rfl, fun h => by cases h⟩, bthen HB1.out HB9.out⟩
            case true =>
              go_upto_region 21 with (first
                | (go_at_call 44; with_reducible refine HA.out.mono ?_; rintro e w8 ⟨rfl, rfl⟩)
                | (go_at_call 44; with_reducible refine HC.out.mono ?_; rintro e w8 ⟨rfl, rfl⟩)
                | (go_at_call 44; with_reducible refine HX.out.mono ?_; rintro e w8 ⟨rfl, rfl⟩)
                | (go_at_call 45; refine HF.out.mono ?_; rintro e w9 ⟨⟨rf, rfl, hrf⟩, hb⟩; have HB9 := Lib.hid (bthen HB3.out hb); clear hb))
              have HRF := Lib.hid hrf
              clear hrf
              cases rx
              case false =>
                go_wp2_with fail
                go_ret
                exact ⟨⟨_, rfl, fun h => by cases h⟩, bthen HB1.out HB9.out⟩
              case true =>
                cases rf
                case false =>
                  go_wp2_with fail
                  go_ret
                  exact ⟨⟨_, rfl, fun h => by cases h⟩, bthen HB1.out HB9.out⟩
                case true =>
                  have HOK2 := Lib.hid (HOK.out (HRF.out rfl))
                  go_wp2_with fail
                  go_ret
                  exact ⟨⟨_, rfl, fun _ => HOK2.out⟩, bthen HB1.out HB9.out⟩
        case pos =>
        have hjz : j < m.S.length := by have := HSN.out; omega
        have hji : (j : Int) < (sn : Int) := by omega
        have hj0 : (0 : Int) ≤ (j : Int) := by omega
        obtain ⟨b, off, hAe, q0⟩ := (HSR.out.keep (Nat.le_refl _) HB3.out).cell hjz
        obtain ⟨e, he⟩ : ∃ e, e = m.S[j] := ⟨_, rfl⟩
        rw [← he] at q0
        have HW := Lib.hid (H44.out e 0 4611686018427387904 wr)
        obtain ⟨r, hr⟩ : ∃ r, r = (decide (0 ≤ e) && decide (e ≤ 4611686018427387904)) := ⟨_, rfl⟩
        rw [← hr] at HW
        subst hAe
        clear he hr hltj
        cases r with
        | false =>
          go_wp2_with (go_at_call 44; refine HW.out.mono ?_; rintro e w8 ⟨rfl, rfl⟩)
          go_ret
          exact ⟨⟨_, rfl, fun h => by cases h⟩, bthen HB1.out HB3.out⟩
        | true =>
          go_wp2_with (go_at_call 44; refine HW.out.mono ?_; rintro e w8 ⟨rfl, rfl⟩)
          go_roundw
          case rel => exact ⟨j + 1, by omega, by go_num, by first | rfl | trivial⟩
          case measure => simp [intOf]; omega
    case pos =>
    have hiz : i < m.E.length := by have := HEN.out; omega
    have hii : (i : Int) < (en : Int) := by omega
    have hi0 : (0 : Int) ≤ (i : Int) := by omega
    obtain ⟨b, off, hAe, q0⟩ := (HER.out.keep (Nat.le_refl _) HB3.out).cell hiz
    obtain ⟨e, he⟩ : ∃ e, e = m.E[i] := ⟨_, rfl⟩
    rw [← he] at q0
    have HW := Lib.hid (H44.out e 0 l wr)
    obtain ⟨r, hr⟩ : ∃ r, r = (decide (0 ≤ e) && decide (e ≤ l)) := ⟨_, rfl⟩
    rw [← hr] at HW
    have HRE := Lib.hid (show r = true → 0 ≤ e ∧ e ≤ l by rw [hr]; simp)
    have HEE := Lib.hid he
    subst hAe
    clear he hr hlt
    cases r with
    | false =>
      go_wp2_with (go_at_call 44; refine HW.out.mono ?_; rintro e w8 ⟨rfl, rfl⟩)
      go_ret
      exact ⟨⟨_, rfl, fun h => by cases h⟩, bthen HB1.out HB3.out⟩
    | true =>
      have HED2 := Lib.hid (show EdgeTo m.E (i + 1) from fun a ha hk => by
        rcases Nat.lt_or_ge a i with h | h
        · exact HED.out a ha h
        · obtain rfl : a = i := by omega
          refine ⟨by rw [← HEE.out]; exact (HRE.out rfl).1, fun b hb => ?_⟩
          obtain ⟨hb2, hl⟩ := HLA.out b hb
          exact ⟨hb2, by rw [← HEE.out, ← hl]; exact (HRE.out rfl).2⟩)
      have HLA2 := Lib.hid (show ∀ b, i + 1 = b + 1 → ∃ hb : b < m.E.length, e = m.E[b] from fun b hb => by
        obtain rfl : b = i := by omega
        exact ⟨hiz, HEE.out⟩)
      go_wp2_with (go_at_call 44; refine HW.out.mono ?_; rintro e w8 ⟨rfl, rfl⟩)
      go_roundw
      case rel => exact ⟨i + 1, e, by omega, by go_num, rfl, HED2, HLA2, by first | rfl | trivial⟩
      case measure => simp [intOf]; omega
end Go.Proofs.Ytgaallkdfcckpaa
namespace Go.Proofs.Ytgaallkdfcckpaa
open Go.RowKit Go.Maps Go.Lib Go.Shelf
set_option linter.unusedSimpArgs false
set_option linter.unusedVariables false
set_option maxRecDepth 100000 in
set_option maxHeartbeats 16000000 in
theorem same10 (A B : Option Addr) (n c m d : Nat) (L M : List XZ) (w : World) (hA : Row w A (cellsX L)) (hB : Row w B (cellsX M)) (hn : n = L.length) (hm : m = M.length) (hnm : n ≤ 9223372036854775807) (hmm : m ≤ 9223372036854775807) :
    Calls Try.prog 10 #[.slice A n c, .slice B m d] w fun e w' => e = .returned (.bool (decide (L = M))) ∧ Below w.heap.size w w' := by
  have HA := Lib.hid hA
  have HB := Lib.hid hB
  have HN := Lib.hid hn
  have HM := Lib.hid hm
  obtain ⟨r, hr⟩ : ∃ r, r = decide (L = M) := ⟨_, rfl⟩
  rw [← hr]
  have HR := Lib.hid (show r = true ↔ L = M by rw [hr]; simp)
  clear hA hB hn hm hr
  by_cases hne : n = m
  case neg =>
    obtain rfl : r = false := by
      rw [Bool.eq_false_iff]
      intro h
      refine hne ?_
      rw [HN.out, HM.out, HR.out.1 h]
    have hd : ((n : Int) != (m : Int)) = true := by simp; omega
    clear HR hne
    go_enter Try.func10, Try.ntmps10
    go_wp2_with fail
    go_ret
    exact ⟨rfl, Below.refl _ _⟩
  subst hne
  have hd : ((n : Int) != (n : Int)) = false := by simp
  go_enter Try.func10, Try.ntmps10
  go_upto_region 4 with fail
  go_loopw [5] (fun vi wr => ∃ k : Nat, k ≤ n ∧ vi = .int .i64 k ∧ Hid (L.take k = M.take k) ∧ Hid (Below w.heap.size w wr)) (fun vi _ => n - (intOf vi).toNat)
  case atStart => exact ⟨0, by omega, rfl, Lib.hid rfl, Lib.hid (Below.refl _ _)⟩
  case round =>
    obtain ⟨k, hk, rfl, HE, HBW⟩ := hrel
    by_cases hlt : k < n
    case neg =>
      obtain rfl : k = n := by omega
      have hge : ¬ (k : Int) < (k : Int) := by omega
      obtain rfl : r = true := by
        refine HR.out.2 ?_
        have h := HE.out
        rw [List.take_of_length_le (by have := HN.out; omega), List.take_of_length_le (by have := HM.out; omega)] at h
        exact h
      clear hlt HR
      go_wp2_with fail
      go_ret
      exact ⟨rfl, HBW.out⟩
    case pos =>
    have hka : k < L.length := by have := HN.out; omega
    have hkb : k < M.length := by have := HM.out; omega
    have hki : (k : Int) < (n : Int) := by omega
    have hk0 : (0 : Int) ≤ (k : Int) := by omega
    obtain ⟨ba, oa, hAe, a0, a1, a2, a3, a4⟩ := x_cells (HA.out.keep (Nat.le_refl _) HBW.out) hka
    obtain ⟨bb, ob, hBe, b0, b1, b2, b3, b4⟩ := x_cells (HB.out.keep (Nat.le_refl _) HBW.out) hkb
    obtain ⟨x, hx⟩ : ∃ x, x = L[k] := ⟨_, rfl⟩
    obtain ⟨y, hy⟩ : ∃ x, x = M[k] := ⟨_, rfl⟩
    rw [← hx] at a0 a1 a2 a3 a4
    rw [← hy] at b0 b1 b2 b3 b4
    have HX := Lib.hid hx
    have HY := Lib.hid hy
    subst hAe hBe
    clear hx hy hlt
    by_cases e : x = y
    · have HE2 := Lib.hid (show L.take (k + 1) = M.take (k + 1) by
        rw [take_snoc _ _ hka, take_snoc _ _ hkb, HE.out, ← HX.out, ← HY.out, e])
      subst e
      clear HX HY
      go_upto_region 6 with fail
      go_quiet (fail)
      go_wp2_with fail
      go_roundw
      case rel => exact ⟨k + 1, by omega, by go_num, HE2, Lib.hid (below_drewN HBW.out _)⟩
      case measure => simp [intOf]; omega
    · obtain rfl : r = false := by
        rw [Bool.eq_false_iff]
        intro h
        refine e ?_
        have h2 := HR.out.1 h
        rw [HX.out, HY.out]; simp only [h2]
      obtain ⟨x0, x1, x2, x3, x4⟩ := x
      obtain ⟨y0, y1, y2, y3, y4⟩ := y
      simp only at a0 a1 a2 a3 a4 b0 b1 b2 b3 b4
      by_cases f0 : x0 = y0
      · subst f0
        by_cases f1 : x1 = y1
        · subst f1
          by_cases f2 : x2 = y2
          · subst f2
            by_cases f3 : x3 = y3
            · subst f3
              by_cases f4 : x4 = y4
              · subst f4
                exact absurd rfl e
              · have hb4 : (x4 == y4) = false := by simp [f4]
                clear HR HX HY e f4
                go_upto_region 6 with fail
                go_quiet (fail)
                go_wp2_with fail
                go_ret
                exact ⟨rfl, below_drewN HBW.out _⟩
            · have hb3 : (x3 == y3) = false := by simp [f3]
              clear HR HX HY e f3
              go_upto_region 6 with fail
              go_quiet (fail)
              go_wp2_with fail
              go_ret
              exact ⟨rfl, below_drewN HBW.out _⟩
          · have hb2 : (x2 == y2) = false := by simp [f2]
            clear HR HX HY e f2
            go_upto_region 6 with fail
            go_quiet (fail)
            go_wp2_with fail
            go_ret
            exact ⟨rfl, below_drewN HBW.out _⟩
        · have hb1 : (x1 == y1) = false := by simp [f1]
          clear HR HX HY e f1
          go_upto_region 6 with fail
          go_quiet (fail)
          go_wp2_with fail
          go_ret
          exact ⟨rfl, below_drewN HBW.out _⟩
      · have hb0 : (x0 == y0) = false := by simp [f0]
        clear HR HX HY e f0
        go_upto_region 6 with fail
        go_quiet (fail)
        go_wp2_with fail
        go_ret
        exact ⟨rfl, below_drewN HBW.out _⟩
structure FitsOk (m : MZ) (q : QZ) : Prop where
  fq : FitQ m.D m.M q
  r : RightM m
  ck : checkS m.D m.M q = 0
set_option maxRecDepth 100000 in
set_option maxHeartbeats 64000000 in
theorem fits7 (m : MZ) (q : QZ) (w : World) (hm : MIn w m) (hq : QIn w q) (hd1 : m.dn ≤ 1100000) (hd2 : m.mn ≤ 1100000) (hds : ∀ s ∈ m.D, s.size ≤ 9223372036854775807) (hms : ∀ s ∈ m.M, s.size ≤ 9223372036854775807) : Calls Try.prog 7 #[.agg #[.slice m.dA m.dn m.dc, .slice m.mA m.mn m.mc, .slice m.p.tA m.p.tn m.p.tc, .slice m.p.jA m.p.jn m.p.jc, .int .i64 m.p.hor, .int .i64 m.now, .slice m.eA m.en m.ec, .int .i64 m.cnt, .slice m.sA m.sn m.sc, .slice m.fA m.fn m.fc, .string m.jr, .int .i64 m.nxt], .agg #[.slice q.tA q.tn q.tc, .int .i64 q.frm, .int .i64 q.upto, .int .i64 q.every, .slice q.bA q.bn q.bc, .int .i64 q.f.op, .string q.f.dim, .string q.f.val, .slice q.f.A q.f.n q.f.c, .slice q.hA q.hn q.hc, .int .i64 q.order, .int .i64 q.limit]] w (BoolB w (FitsOk m q)) := by
  obtain ⟨wa, hwa⟩ : ∃ wa, wa = w.alloc (.cells #[.slice m.dA m.dn m.dc, .slice m.mA m.mn m.mc, .slice m.p.tA m.p.tn m.p.tc, .slice m.p.jA m.p.jn m.p.jc, .int .i64 m.p.hor, .int .i64 m.now, .slice m.eA m.en m.ec, .int .i64 m.cnt, .slice m.sA m.sn m.sc, .slice m.fA m.fn m.fc, .string m.jr, .int .i64 m.nxt] 34) := ⟨_, rfl⟩
  obtain ⟨w1, hw1⟩ : ∃ w1, w1 = wa.alloc (.cells #[.slice q.tA q.tn q.tc, .int .i64 q.frm, .int .i64 q.upto, .int .i64 q.every, .slice q.bA q.bn q.bc, .int .i64 q.f.op, .string q.f.dim, .string q.f.val, .slice q.f.A q.f.n q.f.c, .slice q.hA q.hn q.hc, .int .i64 q.order, .int .i64 q.limit] 42) := ⟨_, rfl⟩
  have ba : Below w.heap.size w wa := by rw [hwa]; exact bpush (Below.refl _ _) _
  have bb : Below wa.heap.size wa w1 := by rw [hw1]; exact bpush (Below.refl _ _) _
  have kM : Blk wa w.heap.size 34 #[.slice m.dA m.dn m.dc, .slice m.mA m.mn m.mc, .slice m.p.tA m.p.tn m.p.tc, .slice m.p.jA m.p.jn m.p.jc, .int .i64 m.p.hor, .int .i64 m.now, .slice m.eA m.en m.ec, .int .i64 m.cnt, .slice m.sA m.sn m.sc, .slice m.fA m.fn m.fc, .string m.jr, .int .i64 m.nxt] := by rw [hwa]; exact Blk.new _ _ _
  have kQ : Blk w1 wa.heap.size 42 #[.slice q.tA q.tn q.tc, .int .i64 q.frm, .int .i64 q.upto, .int .i64 q.every, .slice q.bA q.bn q.bc, .int .i64 q.f.op, .string q.f.dim, .string q.f.val, .slice q.f.A q.f.n q.f.c, .slice q.hA q.hn q.hc, .int .i64 q.order, .int .i64 q.limit] := by rw [hw1]; exact Blk.new _ _ _
  have sza : wa.heap.size = w.heap.size + 1 := by rw [hwa]; simp
  rw [sza] at kQ
  have kM := kM.below bb
  have hb1 := bthen ba bb
  have HB1 := Lib.hid hb1
  obtain ⟨G, hGe⟩ : ∃ G, G = w.heap.size := ⟨_, rfl⟩
  obtain ⟨Q, hQe⟩ : ∃ Q, Q = w.heap.size + 1 := ⟨_, rfl⟩
  rw [← hGe] at kM
  rw [← hQe] at kQ
  have HKM := Lib.hid kM
  have HKQ := Lib.hid kQ
  have HM := Lib.hid (hm.keep (Nat.le_refl _) hb1)
  have HQ := Lib.hid (hq.keep (Nat.le_refl _) hb1)
  have HCE := Lib.hid (fun W (hW : Below w1.heap.size w1 W) => And.intro (m_cells (HKM.out.below hW)) (q_cells (HKQ.out.below hW)))
  have HW1 := Lib.hid (show w1 = (w.alloc (.cells #[.slice m.dA m.dn m.dc, .slice m.mA m.mn m.mc, .slice m.p.tA m.p.tn m.p.tc, .slice m.p.jA m.p.jn m.p.jc, .int .i64 m.p.hor, .int .i64 m.now, .slice m.eA m.en m.ec, .int .i64 m.cnt, .slice m.sA m.sn m.sc, .slice m.fA m.fn m.fc, .string m.jr, .int .i64 m.nxt] 34)).alloc (.cells #[.slice q.tA q.tn q.tc, .int .i64 q.frm, .int .i64 q.upto, .int .i64 q.every, .slice q.bA q.bn q.bc, .int .i64 q.f.op, .string q.f.dim, .string q.f.val, .slice q.f.A q.f.n q.f.c, .slice q.hA q.hn q.hc, .int .i64 q.order, .int .i64 q.limit] 42) by rw [hw1, hwa])
  have HE2 := Lib.hid (And.intro hGe hQe)
  have H16 := Lib.hid (fits16 m w1 HM.out)
  have H18 := Lib.hid (fun W (hW : Below w1.heap.size w1 W) => fitsQ_any m.dA m.mA m.dn m.dc m.mn m.mc m.D m.M q W (HM.out.d.keep (Nat.le_refl _) hW) (HM.out.mm.keep (Nat.le_refl _) hW) (HQ.out.by_.keep (Nat.le_refl _) hW) (FIn.keep q.f HQ.out.f (Nat.le_refl _) hW) HQ.out.tmax HQ.out.hmax)
  have H17 := Lib.hid (fun W (hW : Below w1.heap.size w1 W) => right17 m W (HM.out.keep (Nat.le_refl _) hW) hd1 hd2 hds hms)
  have H19 := Lib.hid (fun (hf : FitQ m.D m.M q) W (hW : Below w1.heap.size w1 W) => rcheck_any m.dA m.mA m.dn m.dc m.mn m.mc m.D m.M q W (HM.out.d.keep (Nat.le_refl _) hW) (HM.out.mm.keep (Nat.le_refl _) hW) (HQ.out.keep (Nat.le_refl _) hW) (by have := hf.fb.1; have := HQ.out.by_.len; omega) (by have h1 := leaves_le q.f; have := hf.tot; rw [dims_leaves, List.length_map]; omega))
  obtain ⟨ck, hck⟩ : ∃ x, x = checkS m.D m.M q := ⟨_, rfl⟩
  rw [← hck] at H19
  have HCK := Lib.hid hck
  obtain ⟨⟨d0, d1, d2, d3, d4, d5, d6, d7, d8, d9, d10, d11⟩, ⟨c0, c1, c2, c3, c4, c5, c6, c7, c8, c9, c10, c11⟩⟩ := HCE.out w1 (Below.refl _ _)
  clear hwa hw1 ba bb kM kQ sza hb1 hm hq hGe hQe hck hds hms hd1 hd2
  go_enter Try.func7, Try.ntmps7
  go_upto_region 1 with fail
  rw [← HW1.out, ← HE2.out.2, ← HE2.out.1]
  go_upto_region 2 with (go_at_call 16; refine H16.out.mono ?_; rintro e w2 ⟨⟨ra, rfl, -⟩, hb⟩; have HB2 := Lib.hid hb; clear hb)
  clear d0 d1 d2 d3 d4 d5 d6 d7 d8 d9 d10 d11 c0 c1 c2 c3 c4 c5 c6 c7 c8 c9 c10 c11
  obtain ⟨⟨d0, d1, d2, d3, d4, d5, d6, d7, d8, d9, d10, d11⟩, ⟨c0, c1, c2, c3, c4, c5, c6, c7, c8, c9, c10, c11⟩⟩ := HCE.out w2 HB2.out
  have H18' := Lib.hid (H18.out w2 HB2.out)
  go_upto_region 3 with (go_at_call 18; refine H18'.out.mono ?_; rintro e w3 ⟨⟨rb, rfl, hrb⟩, hb⟩; have HRB := Lib.hid hrb; have HB3 := Lib.hid (bthen HB2.out hb); clear hb hrb)
  clear d0 d1 d2 d3 d4 d5 d6 d7 d8 d9 d10 d11 c0 c1 c2 c3 c4 c5 c6 c7 c8 c9 c10 c11
  obtain ⟨⟨d0, d1, d2, d3, d4, d5, d6, d7, d8, d9, d10, d11⟩, ⟨c0, c1, c2, c3, c4, c5, c6, c7, c8, c9, c10, c11⟩⟩ := HCE.out w3 HB3.out
  have H17' := Lib.hid (H17.out w3 HB3.out)
  go_upto_region 4 with (go_at_call 17; refine H17'.out.mono ?_; rintro e w4 ⟨⟨rc, rfl, hrc⟩, hb⟩; have HRC := Lib.hid hrc; have HB4 := Lib.hid (bthen HB3.out hb); clear hb hrc)
  clear d0 d1 d2 d3 d4 d5 d6 d7 d8 d9 d10 d11 c0 c1 c2 c3 c4 c5 c6 c7 c8 c9 c10 c11
  obtain ⟨⟨d0, d1, d2, d3, d4, d5, d6, d7, d8, d9, d10, d11⟩, ⟨c0, c1, c2, c3, c4, c5, c6, c7, c8, c9, c10, c11⟩⟩ := HCE.out w4 HB4.out
  cases ra with
  | false =>
    go_wp2_with fail
    go_ret
    exact ⟨⟨_, rfl, fun h => by cases h⟩, bthen HB1.out HB4.out⟩
  | true =>
  cases rb with
  | false =>
    go_wp2_with fail
    go_ret
    exact ⟨⟨_, rfl, fun h => by cases h⟩, bthen HB1.out HB4.out⟩
  | true =>
  cases rc with
  | false =>
    go_wp2_with fail
    go_ret
    exact ⟨⟨_, rfl, fun h => by cases h⟩, bthen HB1.out HB4.out⟩
  | true =>
  have HFQ := Lib.hid (HRB.out rfl)
  have HRM := Lib.hid (HRC.out rfl)
  have H19' := Lib.hid (H19.out HFQ.out w4 HB4.out)
  by_cases h0 : ck = 0
  · have HOK := Lib.hid (show FitsOk m q from ⟨HFQ.out, HRM.out, by rw [← HCK.out]; exact h0⟩)
    subst h0
    go_wp2_with (go_at_call 19; refine H19'.out.mono ?_; rintro e w5 ⟨rfl, hb⟩; have HB5 := Lib.hid (bthen HB4.out hb); clear hb)
    go_ret
    exact ⟨⟨_, rfl, fun _ => HOK.out⟩, bthen HB1.out HB5.out⟩
  · have h0b : (ck == 0) = false := by simp [h0]
    clear h0
    go_wp2_with (go_at_call 19; refine H19'.out.mono ?_; rintro e w5 ⟨rfl, hb⟩; have HB5 := Lib.hid (bthen HB4.out hb); clear hb)
    go_ret
    exact ⟨⟨_, rfl, fun h => by cases h⟩, bthen HB1.out HB5.out⟩
end Go.Proofs.Ytgaallkdfcckpaa
