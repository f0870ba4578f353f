/- The walk of IngestOrder (5). -/
import Derived.Test.YtmmeekmiildliaaGreatDoorJH
import Derived.BigQuiet
namespace Go.Proofs.YtmmeekmiildliaaGreatDoor
open Go.RowKit
set_option linter.unusedSimpArgs false
set_option linter.unusedVariables false
set_option maxRecDepth 100000 in
set_option maxHeartbeats 32000000 in
theorem order_walk (A E VA : Option Addr) (n c m d l lc : Nat) (g : Int) (L M : List ByteArray) (Z : List EV) (w : World) (hT : Tab w) (hA : Row w A (texts L)) (hB : Row w E (texts M)) (hZ : EvsC w VA Z) (hn : n = L.length) (hm : m = M.length) (hl : l = Z.length) (hnc : n ≤ c) (hmd : m ≤ d) (ha : A = none → c = 0) (hb : E = none → d = 0)
    (hL : ∀ s ∈ L, s.size ≤ 9223372036854775807) (hM : ∀ s ∈ M, s.size ≤ 9223372036854775807) (hn2 : n ≤ 9223372036854775807) (hm2 : m ≤ 9223372036854775807) (hl2 : l ≤ 9223372036854775807) (hp2 : ∀ z ∈ Z, z.p ≤ 9223372036854775807 ∧ z.x ≤ 9223372036854775807) :
    Calls Tryz.prog 5 #[.agg #[.slice A n c, .slice E m d], .int .i64 g, .slice VA l lc] w fun e w' => e = .returned (.bool true) ∧ Below w.heap.size w w' := by
  obtain ⟨W0, hW0⟩ : ∃ W0, W0 = w.alloc (.cells #[.slice A n c, .slice E m d] 24) := ⟨_, rfl⟩
  have hb0 : Below w.heap.size w W0 := by rw [hW0]; exact bpush (Below.refl _ _) _
  have HSC0 := Lib.hid (show ∀ W, Below W0.heap.size W0 W → W.cell? ⟨w.heap.size, 0, none⟩ = some (.slice A n c) ∧ W.cell? ⟨w.heap.size, 1, none⟩ = some (.slice E m d) from fun W hW => ⟨cell_on hW (by rw [hW0]; exact cell_made rfl rfl), cell_on hW (by rw [hW0]; exact cell_made rfl rfl)⟩)
  obtain ⟨r, hr⟩ := bool_of (FitsE L M Z)
  have HF := Lib.hid (fitsev_any A E VA n c m d l lc L M Z W0 (hA.keep (Nat.le_refl _) hb0) (hB.keep (Nat.le_refl _) hb0) (hZ.keep (Nat.le_refl _) hb0) hn hm hl hn2 hm2 hl2 hp2 r hr)
  obtain ⟨x, hx⟩ := newE_ex L M g
  have HN := Lib.hid (fun W (hW : Below w.heap.size w W) => new_all A E n c m d g L M W (hA.keep (Nat.le_refl _) hW) (hB.keep (Nat.le_refl _) hW) hn hm hnc hmd ha hb hL hM hn2 hm2 x hx)
  have HT := Lib.hid hT
  have HAA := Lib.hid hA
  have HZZ := Lib.hid hZ
  have HNL := Lib.hid hn
  have HMM := Lib.hid hm
  have HLL := Lib.hid hl
  have HR := Lib.hid hr
  have HB0 := Lib.hid hb0
  have HW0 := Lib.hid hW0
  obtain ⟨s0, s1⟩ := HSC0.out W0 (Below.refl _ _)
  clear hT hA hB hZ hn hm hl hnc hmd ha hb hL hM hn2 hm2 hl2 hp2 hr hW0 hb0 hx
  go_enter Tryz.func5, Tryz.ntmps5
  go_upto_region 1 with fail
  rw [← HW0.out]
  clear HW0
  go_upto_region 2 with (go_at_call 8; refine HF.out.mono ?_; rintro e w1 ⟨rfl, hb1⟩)
  have HB1 := Lib.hid (bthen HB0.out hb1)
  have HBW1 := Lib.hid hb1
  clear hb1 HF s0 s1
  obtain ⟨s0, s1⟩ := HSC0.out w1 HBW1.out
  go_upto_region 3 with (go_at_call 14; refine (HN.out w1 HB1.out).mono ?_; rintro e w2 h2; obtain ⟨p2, rfl, hp2, hb2⟩ := h2.gen; clear h2)
  have HP2 := Lib.hid hp2
  have HB2 := Lib.hid (bthen HB1.out hb2)
  have HBW2 := Lib.hid (HBW1.out.trans (hb2.mono HBW1.out.size))
  have HS2 := Lib.hid hb2
  clear hp2 hb2 s0 s1
  obtain ⟨s0, s1⟩ := HSC0.out w2 HBW2.out
  go_upto_region 4 with (go_at_call 14; refine (HN.out w2 HB2.out).mono ?_; rintro e w3 h2; obtain ⟨p3, rfl, hp3, hb3⟩ := h2.gen; clear h2)
  have HP3 := Lib.hid hp3
  have HB3 := Lib.hid (bthen HB2.out hb3)
  have HBW3 := Lib.hid (HBW2.out.trans (hb3.mono HBW2.out.size))
  have HS3 := Lib.hid hb3
  clear hp3 hb3 s0 s1
  obtain ⟨s0, s1⟩ := HSC0.out w3 HBW3.out
  go_upto_region 5 with (go_at_call 14; refine (HN.out w3 HB3.out).mono ?_; rintro e w4 h2; obtain ⟨p4, rfl, hp4, hb4⟩ := h2.gen; clear h2)
  have HP4 := Lib.hid hp4
  have HB4 := Lib.hid (bthen HB3.out hb4)
  have HBW4 := Lib.hid (HBW3.out.trans (hb4.mono HBW3.out.size))
  have HS4 := Lib.hid hb4
  clear hp4 hb4 s0 s1
  obtain ⟨s0, s1⟩ := HSC0.out w4 HBW4.out
  go_upto_region 6 with (go_at_call 14; refine (HN.out w4 HB4.out).mono ?_; rintro e w5 h2; obtain ⟨p5, rfl, hp5, hb5⟩ := h2.gen; clear h2)
  have HP5 := Lib.hid hp5
  have HB5 := Lib.hid (bthen HB4.out hb5)
  have HBW5 := Lib.hid (HBW4.out.trans (hb5.mono HBW4.out.size))
  have HS5 := Lib.hid hb5
  clear hp5 hb5 s0 s1
  obtain ⟨s0, s1⟩ := HSC0.out w5 HBW5.out
  by_cases hgo : r = true ∧ x = 0
  case neg =>
    have z0 : r = false ∨ (x != 0) = true := by
      cases r with
      | false => exact .inl rfl
      | true => exact .inr (by rw [bne_iff_ne]; exact fun e => hgo ⟨rfl, e⟩)
    clear hgo
    rcases z0 with rfl | z0
    · go_wp2_with (go_at_call 10; refine (alive_any _ (HT.out.keep HB5.out)).mono ?_; rintro e w6 ⟨rfl, hb6⟩)
      go_ret
      exact ⟨rfl, bthen HB5.out hb6⟩
    · cases r with
      | false =>
        go_wp2_with (go_at_call 10; refine (alive_any _ (HT.out.keep HB5.out)).mono ?_; rintro e w6 ⟨rfl, hb6⟩)
        go_ret
        exact ⟨rfl, bthen HB5.out hb6⟩
      | true =>
        go_wp2_with (go_at_call 10; refine (alive_any _ (HT.out.keep HB5.out)).mono ?_; rintro e w6 ⟨rfl, hb6⟩)
        go_ret
        exact ⟨rfl, bthen HB5.out hb6⟩
  case pos =>
  obtain ⟨rfl, rfl⟩ := hgo
  have HFT := Lib.hid (HR.out.1 rfl)
  have hn20 : n ≤ 20 := by have := HFT.out.l.1; have := HNL.out; omega
  have hm20 : m ≤ 20 := by have := HFT.out.m.1; have := HMM.out; omega
  have hl60 : l ≤ 60 := by have := HFT.out.n; have := HLL.out; omega
  obtain ⟨xb, xm, rfl, hix⟩ := HP2.out rfl
  obtain ⟨yb, ym, rfl, hiy⟩ := HP3.out rfl
  obtain ⟨ab, am, rfl, hia⟩ := HP4.out rfl
  obtain ⟨bb, bm, rfl, hib⟩ := HP5.out rfl
  have HNE := Lib.hid (show (xb < yb ∧ yb < ab ∧ ab < bb) ∧ (xm < ym ∧ ym < am ∧ am < bm) from by
    have h1 := hix.lts; have h2 := hiy.lts; have h3 := hia.lts; have h4 := hiy.lx; have h5 := hiy.lm; have h6 := hia.lx; have h7 := hia.lm; have h8 := hib.lx; have h9 := hib.lm
    exact ⟨⟨by omega, by omega, by omega⟩, by omega, by omega, by omega⟩)
  have HX := Lib.hid (((hix.keep HS3.out).keep HS4.out).keep HS5.out)
  have HY := Lib.hid ((hiy.keep HS4.out).keep HS5.out)
  have HA := Lib.hid (hia.keep HS5.out)
  have HB := Lib.hid hib
  have HGR := Lib.hid hix.gran
  have hz1 := HB1.out.size
  have hz2 := HB2.out.size
  have hz3 := HB3.out.size
  have hz4 := HB4.out.size
  have hw1 := HBW1.out.size
  have hw2 := HBW2.out.size
  have hw3 := HBW3.out.size
  have hw4 := HBW4.out.size
  clear hix hiy hia hib HP2 HP3 HP4 HP5 HS2 HS3 HS4 HS5 HN HR
  have HADD := Lib.hid (fun (B bx mb : Nat) (z : EV) (hz : z ∈ Z) (V : List RV) (nn : Nat) (hnn : nn ≤ 60) (hv : CheckIs L M z.D z.X z.t 0) (W : World) (hW : Below w.heap.size w W) (hI : Ix W B bx mb g L M V nn) => add_any B bx mb nn g L M V z.E z.F z.p z.q z.x z.y z.t z.D z.X W hI (by omega) (HT.out.keep hW)
    ((HZZ.out.good _ hz).rd.keep (Nat.le_refl _) hW) ((HZZ.out.good _ hz).rx.keep (Nat.le_refl _) hW) (HZZ.out.good _ hz).nd (HZZ.out.good _ hz).nx (HZZ.out.good _ hz).sd (HZZ.out.good _ hz).cd (HZZ.out.good _ hz).ad
    (by have h1 := (HFT.out.ev _ hz).1.1; have h2 := (HZZ.out.good _ hz).nd; omega) (by have h1 := (HFT.out.ev _ hz).2; have h2 := (HZZ.out.good _ hz).nx; omega) 0 hv)
  obtain ⟨j0, hj0, hy0, hy1, hy2⟩ := info_parts infoI
  obtain ⟨wm, hmk, hom, hgm⟩ := run_make_full (P := Tryz.prog) w5 w5.heap.size 25 3 j0 (.int .i64 0) 1 Tryz.underlying25 hj0 hy0 hy1 .i64 .i64 m (by rw [hy2]; omega) (by unfold maxLen; omega) (Nat.le_refl _)
  have hbm : Below w5.heap.size w5 wm := ⟨hgm.os, hgm.tape, hgm.output, hgm.size, fun i hi => hgm.block i hi (by simp)⟩
  have hzm : w5.heap.size ≤ wm.heap.size := hgm.size
  have hoz : wm.ownsRow w5.heap.size 3 1 (.slice (some ⟨w5.heap.size, 0, none⟩) m m) m (intsV (List.replicate m 0)) := by
    have h := hom
    rw [show (Value.int .i64 0).cells = #[.int .i64 0] from rfl, toList_madeCells_one, Nat.mul_one] at h
    rw [show intsV (List.replicate m 0) = List.replicate m (.int .i64 0) by simp]
    exact h
  clear hj0 hy0 hy1 hy2 hom hgm
  obtain ⟨W6, hW6⟩ : ∃ W6, W6 = wm.alloc (.cells #[.int .i64 0, .slice (some ⟨w5.heap.size, 0, none⟩) m m] 27) := ⟨_, rfl⟩
  have hb6 : Below wm.heap.size wm W6 := by rw [hW6]; exact bpush (Below.refl _ _) _
  have hb56 : Below w5.heap.size w5 W6 := hbm.trans (hb6.mono hzm)
  have HSP := Lib.hid (show Blk W6 wm.heap.size 27 #[.int .i64 0, .slice (some ⟨w5.heap.size, 0, none⟩) m m] by rw [hW6]; exact Blk.new _ _ _)
  have HSO := Lib.hid (own_less (own_below hoz hb6) (C := 0) (Nat.zero_le _))
  have HX := Lib.hid (HX.out.keep hb56)
  have HY := Lib.hid (HY.out.keep hb56)
  have HA := Lib.hid (HA.out.keep hb56)
  have HB := Lib.hid (HB.out.keep hb56)
  have HB6 := Lib.hid (bthen HB5.out hb56)
  have HBW6 := Lib.hid (HBW5.out.trans (hb56.mono HBW5.out.size))
  have HW6 := Lib.hid hW6
  clear hbm hoz hb6 hb56 hW6
  obtain ⟨sp, hsp⟩ : ∃ sp, sp = wm.heap.size := ⟨_, rfl⟩
  have HSQ := Lib.hid hsp
  have hspw : W0.heap.size ≤ sp := by have h1 := HBW5.out.size; omega
  have hw0 := HB0.out.size
  have hw6 := HB6.out.size
  have hw06 := HBW6.out.size
  go_upto_region 10 with fail
  rw [← HW6.out]
  rw [← hsp] at HSP ⊢
  clear hmk HW6 hsp HSQ s0 s1 hzm
  go_wp2_with fail
  have HK0 := Lib.hid (World.ownsRow_nil W6 W6.heap.size 29 3 : W6.ownsRow W6.heap.size 29 3 (.slice none 0 0) 0 [])
  have hbx0 := HX.out.lx
  have hsp6 : sp < W6.heap.size := HSP.out.lt
  go_loopw [17, 18, 19, 20] (fun v17 v18 _ _ wr => ∃ (i : Nat) (K : List EV) (S : List Int) (SA : Option Addr) (sc : Nat) (Vx Va Vb : List RV) (Ea Eb : List EV) (tA : Option Addr) (tc nt : Nat), v17 = .slice tA nt tc ∧ v18 = .int .i64 (i : Int) ∧ i ≤ l ∧ nt ≤ i ∧ Hid (nt = K.length) ∧ Hid (wr.ownsRow W6.heap.size 29 3 (.slice tA nt tc) nt (cellsV K)) ∧ Hid (∀ z ∈ K, z ∈ Z ∧ EvOk L M z.D z.X z.t)
    ∧ Hid (Blk wr sp 27 #[.int .i64 (nt : Nat), .slice SA m sc]) ∧ Hid (wr.ownsRow 0 3 1 (.slice SA m sc) m (intsV S)) ∧ Hid (Spent M.length S K)
    ∧ Hid (Ix wr w1.heap.size xb xm g L M Vx nt) ∧ Hid (Ix wr w2.heap.size yb ym g L M [] 0) ∧ Hid (Ix wr w3.heap.size ab am g L M Va Ea.length) ∧ Hid (Ix wr w4.heap.size bb bm g L M Vb Eb.length)
    ∧ Hid (Held M.length g Vx K) ∧ Hid (Held M.length g Va Ea) ∧ Hid (Held M.length g Vb Eb) ∧ Hid ((Ea ++ Eb).Perm K) ∧ Hid (Below w.heap.size w wr) ∧ Hid (Below W0.heap.size W0 wr) ∧ Hid (W6.heap.size ≤ wr.heap.size)) (fun _ v18 _ _ _ => l - (intOf v18).toNat)
  case atStart => exact ⟨0, [], List.replicate m 0, _, _, [], [], [], [], [], none, 0, 0, rfl, rfl, Nat.zero_le _, Nat.le_refl _, Lib.hid rfl, HK0, Lib.hid (fun z hz => by cases hz), HSP, HSO, Lib.hid ⟨by rw [List.length_replicate, HMM.out], fun j hj => by rw [List.getElem_replicate]; exact ⟨rfl, by decide⟩⟩, HX, HY, HA, HB, Lib.hid (Held.nil _ _), Lib.hid (Held.nil _ _), Lib.hid (Held.nil _ _), Lib.hid (List.Perm.refl _), HB6, HBW6, Lib.hid (Nat.le_refl _)⟩
  case round =>
    obtain ⟨i, K, S, SA, sc, Vx, Va, Vb, Ea, Eb, tA, tc, nt, rfl, rfl, hi, hnt, HNT, HTK, HKZ, HSPR, HSOR, HSPN, HX, HY, HA, HB, HHX, HHA, HHB, HPM, HBR, HBWR, HZR⟩ := hrel
    by_cases hlt : i < l
    case neg =>
      have hil : ¬ ((i : Int) < (l : Int)) := by omega
      have hpl := HPM.out.length_eq
      rw [List.length_append] at hpl
      have hea : Ea.length ≤ nt ∧ Eb.length ≤ nt ∧ Ea.length + Eb.length = nt := by have := HNT.out; omega
      clear hlt hpl
      have jw : IntKind.i64.wrap ((nt : Int) - 1) = (nt : Int) - 1 := IntWalk.i64_in _ (by omega)
      have hnt60 : nt ≤ 60 := by omega
      go_wp2_with fail
      go_loopw [21] (fun v21 wq => ∃ (j : Nat) (u : Int) (Vy : List RV), v21 = .int .i64 u ∧ Hid (u + 1 = (j : Int)) ∧ j ≤ nt ∧ -1 ≤ u ∧ u ≤ 60 ∧ Hid (Ix wq w2.heap.size yb ym g L M Vy (nt - j)) ∧ Hid (Held M.length g Vy (K.drop j).reverse) ∧ Hid (Ix wq w1.heap.size xb xm g L M Vx nt) ∧ Hid (Ix wq w3.heap.size ab am g L M Va Ea.length) ∧ Hid (Ix wq w4.heap.size bb bm g L M Vb Eb.length) ∧ Hid (wq.ownsRow W6.heap.size 29 3 (.slice tA nt tc) nt (cellsV K)) ∧ Hid (Blk wq sp 27 #[.int .i64 (nt : Nat), .slice SA m sc]) ∧ Hid (Below w.heap.size w wq)) (fun v21 _ => (intOf v21 + 1).toNat)
      case atStart => exact ⟨nt, (nt : Int) - 1, [], rfl, Lib.hid (by omega), Nat.le_refl _, by omega, by omega, by rw [Nat.sub_self]; exact HY, by rw [HNT.out, List.drop_length]; exact Lib.hid (Held.nil _ _), HX, HA, HB, HTK, HSPR, HBR⟩
      case round =>
        obtain ⟨j, u, Vy, rfl, HU, hj, hu0, hu1, HY, HHY, HX, HA, HB, HTK, HSPQ, HBQ⟩ := hrel
        by_cases hu : 0 ≤ u
        case pos =>
          obtain ⟨q, rfl⟩ : ∃ q, j = q + 1 := ⟨j - 1, by have := HU.out; omega⟩
          obtain rfl : u = (q : Int) := by have := HU.out; omega
          have hqk : q < K.length := by have := HNT.out; omega
          have hqn : (q : Int) < (nt : Int) := by omega
          have hq0 : (0 : Int) ≤ (q : Int) := by omega
          obtain ⟨-, tA', tc', et, hrt⟩ := own_sliceV HTK.out
          cases et
          have hev : EvsC wr tA K := ⟨hrt, fun y hy => (HZZ.out.good y (HKZ.out y hy).1).keep (Nat.le_refl _) HBQ.out⟩
          obtain ⟨b, off, rfl, c0, c1, c2⟩ := hev.at hqk
          obtain ⟨z, hz⟩ : ∃ z, z = K[q] := ⟨_, rfl⟩
          have hzk : z ∈ Z ∧ EvOk L M z.D z.X z.t := by rw [hz]; exact HKZ.out _ (List.getElem_mem hqk)
          have hev0 := hzk.2
          have hcv : CheckIs L M z.D z.X z.t 0 := .inr (.inr ⟨hev0.dl, hev0.xl, .inr (.inr ⟨hev0.dv, hev0.xv, .inr (.inr ⟨hev0.t0, hev0.t1, rfl⟩)⟩)⟩)
          have hdq : K.drop q = z :: K.drop (q + 1) := by rw [hz]; exact List.drop_eq_getElem_cons hqk
          rw [← hz] at c0 c1 c2
          have hxm := addR_more HHY.out HGR.out (fun a ha => (HY.out.ok a ha).r) hev0 (by rw [List.length_reverse, List.length_drop, ← HNT.out]; omega) (fun j hj => by
            have h1 := HSPN.out.bd hj
            have h2 := totJ_app (K.take q) (K.drop q) j
            rw [List.take_append_drop, hdq] at h2
            have h3 := totJ_app [z] (K.drop (q + 1)) j
            have h4 := totJ_ge (K.take q) j
            have h5 := totJ_perm (K.drop (q + 1)).reverse_perm j
            simp only [List.singleton_append] at h3
            omega)
          have hax := HADD.out w2.heap.size yb ym z hzk.1 Vy (nt - (q + 1)) (by omega) hcv wr HBQ.out HY.out
          obtain ⟨⟨ax, Vy2⟩, hxr⟩ : ∃ r, r = addR Vy 0 (rowX z.t g z.D z.X) := ⟨_, rfl⟩
          rw [← hxr] at hxm hax
          obtain ⟨hx0, hxh⟩ := hxm
          simp only at hx0
          subst hx0
          have HAX := Lib.hid hax
          have HHN := Lib.hid (show Held M.length g Vy2 (K.drop q).reverse by rw [hdq, List.reverse_cons]; exact hxh)
          clear hax hxh hxr hdq hcv hev0 hzk hz hev hrt
          have jw2 : IntKind.i64.wrap ((q : Int) - 1) = (q : Int) - 1 := IntWalk.i64_in _ (by omega)
          go_wp2_with (go_at_call 18; refine HAX.out.mono ?_; rintro e w18 ⟨rfl, hi18, hk18⟩)
          have HYn := Lib.hid (show Ix w18 w2.heap.size yb ym g L M Vy2 (nt - q) from by
            have h : Ix w18 w2.heap.size yb ym g L M Vy2 (nt - (q + 1) + 1) := hi18
            rwa [show nt - (q + 1) + 1 = nt - q by omega] at h)
          have HX := Lib.hid (HX.out.other HY.out (by have := HNE.out; omega) (by have := HNE.out; omega) hk18)
          have HA := Lib.hid (HA.out.other HY.out (by have := HNE.out; omega) (by have := HNE.out; omega) hk18)
          have HB := Lib.hid (HB.out.other HY.out (by have := HNE.out; omega) (by have := HNE.out; omega) hk18)
          have HTK := Lib.hid (HY.out.kown hk18 HTK.out (by decide))
          have HSPQ := Lib.hid (HY.out.kblk hk18 HSPQ.out (by decide))
          have hlx := HY.out.lx
          have hlm := HY.out.lm
          have HBQ8 := Lib.hid (HBQ.out.trans (hk18.below (by omega) (by omega) HBQ.out.size))
          clear hi18 hk18 HAX hlx hlm c0 c1 c2
          go_roundw
          case rel => exact ⟨q, (q : Int) - 1, Vy2, rfl, Lib.hid (by omega), by omega, by omega, by omega, HYn, HHN, HX, HA, HB, HTK, HSPQ, HBQ8⟩
          case measure => simp [intOf] <;> omega
        case neg =>
        obtain rfl : j = 0 := by have := HU.out; omega
        have hneg : u < 0 := by omega
        have hxy : Vx = Vy := by
          have h := HHY.out.sum
          rw [List.drop_zero] at h
          exact HHX.out.sum.uniq h ((K.reverse_perm.symm).map _)
        have HXY := Lib.hid hxy
        obtain ⟨wq, hwq⟩ : ∃ W, W = wr := ⟨_, rfl⟩
        subst hwq
        clear hu hxy HHY
        have hvx : Vx.length ≤ nt := HX.out.len
        have hva : Va.length ≤ Ea.length := HA.out.len
        have hvb : Vb.length ≤ Eb.length := HB.out.len
        have hOA : ∀ a ∈ Va, OkR M.length a := fun a ha => (HA.out.ok a ha).r
        have hOB : ∀ a ∈ Vb, OkR M.length a := fun a ha => (HB.out.ok a ha).r
        have htf := two_fold HHA.out HHB.out hOA hOB (by omega) (fun j hj => by
          have h1 := HSPN.out.bd hj
          have h2 := totJ_perm HPM.out j
          rw [totJ_app] at h2
          omega)
        have HTF := Lib.hid (show ∀ (Y : List RV) (x : Int), refF [] (Va ++ Vb) = (Y, x) → x = 0 ∧ Y = Vx from fun Y x h => by
          obtain ⟨h1, h2⟩ := htf
          rw [h] at h1 h2
          exact ⟨h1, h2.uniq HHX.out.sum (HPM.out.map _)⟩)
        have HOAB := Lib.hid (show ∀ a ∈ Va ++ Vb, OkR M.length a from fun a ha => (List.mem_append.1 ha).elim (hOA a) (hOB a))
        have HRA := Lib.hid (rows_any HA.out (by omega))
        have HRB := Lib.hid (fun W (hW : Below wq.heap.size wq W) => rows_any (HB.out.keep hW) (by omega))
        have HRX := Lib.hid (fun W (hW : Below wq.heap.size wq W) => rows_any (HX.out.keep hW) (by omega))
        have HRY := Lib.hid (fun W (hW : Below wq.heap.size wq W) => rows_any (HY.out.keep hW) (by omega))
        rw [← HXY.out] at HRY
        have HCN := Lib.hid (fun W (hW : Below wq.heap.size wq W) => count_any (HX.out.keep hW))
        have HSPW := Lib.hid (fun W (hW : Below wq.heap.size wq W) => show W.cell? ⟨sp, 0, none⟩ = some (.int .i64 (nt : Nat)) from blk_get (HSPQ.out.grown (grown_none hW) (by simp)) rfl)
        clear htf hOA hOB HY HX HA HB HTK HADD HHX HHA HHB
        go_upto_region 28 with (first
          | (go_at_call 17; (with_reducible refine HRA.out.mono ?_); rintro e w20 ⟨A20, c20, Y20, rfl, ho20, hy20, hw20, hb20⟩)
          | (go_at_call 17; (with_reducible refine (HRB.out _ hb20).mono ?_); rintro e w21 ⟨A21, c21, Y21, rfl, ho21, hy21, hw21, hb21⟩
             obtain ⟨hn21, A21', c21', e21, hr21, hc21, -, ha21⟩ := own_sliceR ho21
             cases e21
             have ho20' := own_below ho20 hb21
             have hw20' : ∀ y ∈ Y20, Owned wq.heap.size w21 y := fun y hy => (hw20 y hy).keep hb21
             have HN21 := Lib.hid hn21
             clear hn21)
          | (at_builtin
             refine wpList_append_rowso rfl _ _ rfl wq.heap.size (.slice A20 Va.length c20) Va.length (cellsR Y20) rfl A21 Vb.length c21 Y21 rfl ho20' hr21 HN21.out hc21 ha21 (by omega) (by have h1 := hb20.size; have h2 := hb21.size; omega) ?_
             intro v22 w22 ho22 hg22 _
             have HO22 := Lib.hid (show w22.ownsRow wq.heap.size 59 4 v22 (Va.length + Vb.length) (cellsR (Y20 ++ Y21)) by rw [cellsR_app]; exact ho22)
             obtain ⟨hn22, A22, c22, rfl, hr22, hc22, -, ha22⟩ := own_sliceR HO22.out
             have HN22 := Lib.hid hn22
             have hb22 : Below wq.heap.size w21 w22 := grown_below4 ho20' hg22 (by have h1 := hb20.size; have h2 := hb21.size; omega)
             have hbq22 : Below wq.heap.size wq w22 := (bthen hb20 hb21).trans hb22
             have hY21 : ∀ y ∈ Y21, Owned w20.heap.size w22 y := fun y hy => by
               have h := hw21 y hy
               have hs := hb20.size
               exact ⟨h.d.kept hg22 (own_not_own h.d ho20' (by decide)), h.g.kept hg22 (own_not_own h.g ho20' (by decide)), h.sd, h.sg⟩
             have hY20 : ∀ y ∈ Y20, Owned wq.heap.size w22 y := fun y hy => by
               have h := hw20' y hy
               exact ⟨h.d.kept hg22 (own_not_own h.d ho20' (by decide)), h.g.kept hg22 (own_not_own h.g ho20' (by decide)), h.sd, h.sg⟩
             have HRC := Lib.hid (show RowsC w22 A22 (Y20 ++ Y21) from ⟨hr22, fun y hy => (List.mem_append.1 hy).elim (fun h => (hY20 y h).good) (fun h => (hY21 y h).good)⟩)
             have HYY := Lib.hid (show (Y20 ++ Y21).map Prod.snd = Va ++ Vb by rw [List.map_append, hy20, hy21])
             clear hn22 ho22 hg22 hr22 ho20 ho20' ho21 hy20 hy21 hw20 hw20' hw21 hY20 hY21 hr21 hb22)
          | (go_at_call 24
             refine (fold_any A22 (Va.length + Vb.length) c22 (Y20 ++ Y21) w22 HRC.out HN22.out hc22 ha22 (by omega) (fun y hy => by
               have h := HOAB.out y.2 (by rw [← HYY.out]; exact List.mem_map_of_mem hy)
               exact ⟨h.lo, h.hi⟩)).mono ?_
             rintro e w23 ⟨v23, Y23, x23, K23, rfl, hs23, hf23, ho23, hw23, hb23⟩
             obtain ⟨hx23, hy23⟩ := HTF.out (Y23.map Prod.snd) x23 (by rw [← HYY.out]; exact fold_post (q := M.length) hs23 hf23 (fun a ha => HOAB.out a (by rw [← HYY.out]; exact ha)))
             subst hx23
             obtain ⟨hn23, A23, c23, rfl, hr23, hc23, -, ha23⟩ := own_sliceR ho23
             have HY23 := Lib.hid hy23
             have HM23 := Lib.hid (show RowsM w23 A23 Vx by
               have h := (show RowsC w23 A23 Y23 from ⟨hr23, fun y hy => (hw23 y hy).good⟩).rowsM
               rwa [hy23] at h)
             have HB23 := Lib.hid (bthen hbq22 hb23)
             clear hn23 hs23 hf23 ho23 hw23 hb23 hr23 hy23 hbq22))
        go_upto_region 29 with (first
          | (go_at_call 17; (with_reducible refine (HRX.out _ HB23.out).mono ?_); rintro e w24 ⟨A24, c24, Y24, rfl, ho24, hy24, hw24, hb24⟩
             have HB24 := Lib.hid (bthen HB23.out hb24)
             have HM24 := Lib.hid (show RowsM w24 A24 Vx from by
               obtain ⟨-, _, _, e24, hr24, -, -, -⟩ := own_sliceR ho24
               cases e24
               have h := (show RowsC w24 A24 Y24 from ⟨hr24, fun y hy => (hw24 y hy).good⟩).rowsM
               rwa [hy24] at h)
             have HM23 := Lib.hid (HM23.out.keep hb24)
             clear ho24 hy24 hw24 hb24)
          | (go_at_call 17; (with_reducible refine (HRY.out _ HB24.out).mono ?_); rintro e w25 ⟨A25, c25, Y25, rfl, ho25, hy25, hw25, hb25⟩
             have HB25 := Lib.hid (bthen HB24.out hb25)
             have HM25 := Lib.hid (show RowsM w25 A25 Vx from by
               obtain ⟨-, _, _, e25, hr25, -, -, -⟩ := own_sliceR ho25
               cases e25
               have h := (show RowsC w25 A25 Y25 from ⟨hr25, fun y hy => (hw25 y hy).good⟩).rowsM
               rwa [hy25] at h)
             have HM24 := Lib.hid (HM24.out.keep hb25)
             have HM23 := Lib.hid (HM23.out.keep hb25)
             clear ho25 hy25 hw25 hb25)
          | (go_at_call 20
             refine (refrows_any A24 A25 Vx.length c24 Vx.length c25 Vx Vx w25 HM24.out HM25.out rfl rfl (by omega) (by omega) true (by simp)).mono ?_
             rintro e w26 ⟨rfl, hb26⟩
             have HB26 := Lib.hid (bthen HB25.out hb26)
             have HM23 := Lib.hid (HM23.out.keep hb26)
             clear hb26))
        obtain ⟨yl, hyl⟩ : ∃ yl, yl = Y23.length := ⟨_, rfl⟩
        have hyv : yl = Vx.length := by rw [hyl, ← HY23.out, List.length_map]
        have HYV := Lib.hid hyv
        rw [← hyl]
        clear hyl hyv
        go_upto_region 30 with (first
          | (go_at_call 17; (with_reducible refine (HRX.out _ HB26.out).mono ?_); rintro e w27 ⟨A27, c27, Y27, rfl, ho27, hy27, hw27, hb27⟩
             have HB27 := Lib.hid (bthen HB26.out hb27)
             have HM27 := Lib.hid (show RowsM w27 A27 Vx from by
               obtain ⟨-, _, _, e27, hr27, -, -, -⟩ := own_sliceR ho27
               cases e27
               have h := (show RowsC w27 A27 Y27 from ⟨hr27, fun y hy => (hw27 y hy).good⟩).rowsM
               rwa [hy27] at h)
             have HM23 := Lib.hid (HM23.out.keep hb27)
             clear ho27 hy27 hw27 hb27)
          | (go_at_call 20
             refine (refrows_any A27 A23 Vx.length c27 yl c23 Vx Vx w27 HM27.out HM23.out rfl HYV.out (by omega) (by have := HYV.out; omega) true (by simp)).mono ?_
             rintro e w28 ⟨rfl, hb28⟩
             have HB28 := Lib.hid (bthen HB27.out hb28)
             clear hb28))
        have HAL := Lib.hid (alive_any w28 (HT.out.keep (bthen HBQ.out HB28.out)))
        have e1 : ((nt : Int) == (nt : Int)) = true := by simp
        have HSS := Lib.hid (fun W (hW : Below w28.heap.size w28 W) => HSPW.out W (bthen HB28.out hW))
        go_wp2_with (first
          | (go_at_call 10; refine HAL.out.mono ?_; rintro e w29 ⟨rfl, hb29⟩; have HB29 := Lib.hid (bthen HB28.out hb29); have y0 := HSS.out w29 hb29; clear hb29)
          | (go_at_call 22; refine (HCN.out _ HB29.out).mono ?_; rintro e w30 ⟨rfl, rfl⟩))
        go_ret
        exact ⟨rfl, bthen HBQ.out HB29.out⟩
    case pos =>
    have hil : (i : Int) < (l : Int) := by omega
    have hi0 : (0 : Int) ≤ (i : Int) := by omega
    have hiZ : i < Z.length := by have := HLL.out; omega
    have HLT := Lib.hid hlt
    obtain ⟨v, hv⟩ := check_ex L M Z[i].D Z[i].X Z[i].t
    have HZI := Lib.hid (List.getElem_mem hiZ)
    obtain ⟨b, off, rfl, c0, c1, c2⟩ := HZZ.out.at hiZ
    obtain ⟨z, hz⟩ : ∃ z, z = Z[i] := ⟨_, rfl⟩
    rw [← hz] at c0 c1 c2 HZI hv
    have HEC := Lib.hid (fun W (hW : Below w.heap.size w W) => show W.cell? ⟨b, off + i * 3, none⟩ = some (.int .i64 z.t) ∧ W.cell? ⟨b, off + i * 3 + 1, none⟩ = some (.slice z.E z.p z.q) ∧ W.cell? ⟨b, off + i * 3 + 2, none⟩ = some (.slice z.F z.x z.y) from ⟨cell_on hW c0, cell_on hW c1, cell_on hW c2⟩)
    have HVC := Lib.hid hv
    have hsw : sp < wr.heap.size := HSPR.out.lt
    have HCEL := Lib.hid (fun W (hW : Below wr.heap.size wr W) => show (W.cell? ⟨w.heap.size, 0, none⟩ = some (.slice A n c) ∧ W.cell? ⟨w.heap.size, 1, none⟩ = some (.slice E m d)) ∧ (W.cell? ⟨sp, 0, none⟩ = some (.int .i64 (nt : Nat)) ∧ W.cell? ⟨sp, 1, none⟩ = some (.slice SA m sc)) ∧ (W.cell? ⟨b, off + i * 3, none⟩ = some (.int .i64 z.t) ∧ W.cell? ⟨b, off + i * 3 + 1, none⟩ = some (.slice z.E z.p z.q) ∧ W.cell? ⟨b, off + i * 3 + 2, none⟩ = some (.slice z.F z.x z.y)) from by
      have hk := HSPR.out.grown (grown_none hW) (by simp)
      exact ⟨HSC0.out W (HBWR.out.trans (hW.mono HBWR.out.size)), ⟨blk_get hk rfl, blk_get hk rfl⟩, HEC.out W (bthen HBR.out hW)⟩)
    have hzg := HZZ.out.good _ HZI.out
    have hzf := HFT.out.ev _ HZI.out
    have hp20 : z.p ≤ 20 := by have := hzf.1.1; have := hzg.nd; omega
    have hx20 : z.x ≤ 20 := by have := hzf.2; have := hzg.nx; omega
    obtain ⟨_, _, es, hrs, hcs, has⟩ := own_slice HSOR.out
    cases es
    obtain ⟨⟨⟨kk, T⟩, err⟩, hch⟩ : ∃ r, r = chg (nt : Nat) S z.X m v := ⟨_, rfl⟩
    have HCH := Lib.hid (fun W (hW : Below wr.heap.size wr W) => charge_own A E SA z.E z.F n c m d m sc z.p z.q z.x z.y (nt : Nat) z.t L M z.D z.X S W (hrs.keep (Nat.le_refl _) hW) (hzg.rd.keep (Nat.le_refl _) (bthen HBR.out hW)) (hzg.rx.keep (Nat.le_refl _) (bthen HBR.out hW)) HNL.out HMM.out (by rw [HSPN.out.len]; exact HMM.out) hzg.nd hzg.nx hzg.sd hcs has (by omega) (by omega) (by omega) (by omega) v hv)
    rw [← hch] at HCH
    have HCHG := Lib.hid hch
    clear hv hz hch hzg hzf hrs hcs has c0 c1 c2 hlt
    go_upto_region 13 with fail
    go_cut [19, 20] (fun s19 s20 wx => ∃ (g19 : Nat) (A8 : Option Addr) (n8 c8 : Nat), s19 = .pointer (some ⟨g19, 0, none⟩) ∧ s20 = .int .i64 err ∧ Hid (n8 = T.length) ∧ Hid (n8 ≤ c8) ∧ Hid (A8 = none → c8 = 0) ∧ Hid (Blk wx g19 27 #[.int .i64 kk, .slice A8 n8 c8]) ∧ Hid (wx.ownsRow 0 3 1 (.slice A8 n8 c8) n8 (intsV T)) ∧ Hid (Below wr.heap.size wr wx) ∧ Hid (wr.heap.size ≤ g19))
    case first =>
      have hd9 : Below wr.heap.size wr wr.drew := below_drewN (Below.refl _ _) 1
      refine wp_region_held_drew (S := fun W => Below wr.heap.size wr W) (by kernel_rfl) (hd9) ?_
      intro hHeld
      refine take_want (i := 0) (v := ?v0k1) rfl (by kernel_rfl) (by kernel_rfl) (by kernel_rfl) (fun _ _ _ h => h) (by rfl) ?y0k1 (by assumption) ?r0k1
      case y0k1 => (intro w hSw; obtain ⟨⟨q0, q1⟩, ⟨p0, p1⟩, c0, c1, c2⟩ := HCEL.out w hSw; go_simp; all_goals with_reducible rfl)
      (try simp only [Act.put, List.setIfInBounds_toArray, List.set_cons_zero, List.set_cons_succ])
      refine take_want (i := 1) (v := ?v1k1) rfl (by kernel_rfl) (by kernel_rfl) (by kernel_rfl) (fun _ _ _ h => h) (by rfl) ?y1k1 (by assumption) ?r1k1
      case y1k1 => (intro w hSw; obtain ⟨⟨q0, q1⟩, ⟨p0, p1⟩, c0, c1, c2⟩ := HCEL.out w hSw; go_simp; all_goals with_reducible rfl)
      (try simp only [Act.put, List.setIfInBounds_toArray, List.set_cons_zero, List.set_cons_succ])
      refine take_want (i := 2) (v := ?v2k1) rfl (by kernel_rfl) (by kernel_rfl) (by kernel_rfl) (fun _ _ _ h => h) (by rfl) ?y2k1 (by assumption) ?r2k1
      case y2k1 => (intro w hSw; go_simp; all_goals with_reducible rfl)
      (try simp only [Act.put, List.setIfInBounds_toArray, List.set_cons_zero, List.set_cons_succ])
      refine take_want (i := 3) (v := ?v3k1) rfl (by kernel_rfl) (by kernel_rfl) (by kernel_rfl) (fun _ _ _ h => h) (by rfl) ?y3k1 (by assumption) ?r3k1
      case y3k1 => (intro w hSw; go_simp; all_goals with_reducible rfl)
      (try simp only [Act.put, List.setIfInBounds_toArray, List.set_cons_zero, List.set_cons_succ])
      refine take_want (i := 4) (v := ?v4k1) rfl (by kernel_rfl) (by kernel_rfl) (by kernel_rfl) (fun _ _ _ h => h) (by rfl) ?y4k1 (by assumption) ?r4k1
      case y4k1 => (intro w hSw; go_simp; all_goals with_reducible rfl)
      (try simp only [Act.put, List.setIfInBounds_toArray, List.set_cons_zero, List.set_cons_succ])
      refine take_want (i := 5) (v := ?v5k1) rfl (by kernel_rfl) (by kernel_rfl) (by kernel_rfl) (fun _ _ _ h => h) (by rfl) ?y5k1 (by assumption) ?r5k1
      case y5k1 => (intro w hSw; obtain ⟨⟨q0, q1⟩, ⟨p0, p1⟩, c0, c1, c2⟩ := HCEL.out w hSw; go_simp; all_goals with_reducible rfl)
      (try simp only [Act.put, List.setIfInBounds_toArray, List.set_cons_zero, List.set_cons_succ])
      refine wpAnyH_ready (rs := [6, 10]) (by kernel_rfl) (by simp) ?_
      refine AllReadyH.cons rfl (fun K hK => ?_) (AllReadyH.cons rfl (fun K hK => ?_) AllReadyH.nil)
      · go_simp
        (go_at_call 11; refine (HCH.out _ hHeld).mono ?_; rintro e w8 ⟨A8, n8, c8, rfl, hn8, hc8, ha8, -, hb, hr8⟩; have HN8 := Lib.hid hn8; clear hn8)
        have hk := bthen hHeld hb
        refine hK.out _ _ (hk) (fun hHeld => ?_)
        clear hK K
        (try simp only [Act.put, List.setIfInBounds_toArray, List.set_cons_zero, List.set_cons_succ])
        refine take_want (i := 7) (v := ?v7k2) rfl (by kernel_rfl) (by kernel_rfl) (by kernel_rfl) (fun _ _ _ h => h) (by rfl) ?y7k2 (by assumption) ?r7k2
        case y7k2 => (intro w hSw; go_simp; all_goals with_reducible rfl)
        (try simp only [Act.put, List.setIfInBounds_toArray, List.set_cons_zero, List.set_cons_succ])
        refine take_want (i := 8) (v := ?v8k2) rfl (by kernel_rfl) (by kernel_rfl) (by kernel_rfl) (fun _ _ _ h => h) (by rfl) ?y8k2 (by assumption) ?r8k2
        case y8k2 => (intro w hSw; go_simp; all_goals with_reducible rfl)
        (try simp only [Act.put, List.setIfInBounds_toArray, List.set_cons_zero, List.set_cons_succ])
        refine take_want (i := 9) (v := ?v9k2) rfl (by kernel_rfl) (by kernel_rfl) (by kernel_rfl) (fun _ _ _ h => h) (by rfl) ?y9k2 (by assumption) ?r9k2
        case y9k2 => (intro w hSw; go_simp; all_goals with_reducible rfl)
        (try simp only [Act.put, List.setIfInBounds_toArray, List.set_cons_zero, List.set_cons_succ])
        refine wpAnyH_ready (rs := [10]) (by kernel_rfl) (by simp) ?_
        refine AllReadyH.cons rfl (fun K hK => ?_) AllReadyH.nil
        have hge : wr.heap.size ≤ w8.heap.size := hHeld.size
        go_simp
        have hk := bpush hHeld (.cells #[.int .i64 0, .slice none 0 0] 27)
        refine hK.out _ _ (by first | exact hk | (simp at hk ⊢; exact hk)) (fun hHeld => ?_)
        clear hK K
        (try simp only [Act.put, List.setIfInBounds_toArray, List.set_cons_zero, List.set_cons_succ])
        obtain ⟨wz, hwz⟩ : ∃ x, x = w8.alloc (.cells #[.int .i64 0, .slice none 0 0] 27) := ⟨_, rfl⟩
        have hbz : Below w8.heap.size w8 wz := by rw [hwz]; first | exact bpush (Below.refl _ _) _ | exact below_drewN (bpush (Below.refl _ _) _) 1
        have hbx : Blk wz w8.heap.size 27 #[.int .i64 0, .slice none 0 0] := by rw [hwz]; exact Blk.new w8 27 _
        have hzs : w8.heap.size < wz.heap.size := by rw [hwz]; simp
        rw [← hwz] at hHeld ⊢
        clear hwz hk
        have hr8 := own_below hr8 hbz
        have HBX := Lib.hid hbx
        have HR8 := Lib.hid hr8
        have HC8 := Lib.hid hc8
        have HA8 := Lib.hid ha8
        clear hbx hr8 hc8 ha8
        have e0 := HBX.out.cell 0
        have e1 := HBX.out.cell 1
        simp at e0 e1
        have ef := HBX.out.frozen
        refine wpAnyH_ready (rs := [11]) (by kernel_rfl) (by simp) ?_
        refine AllReadyH.cons rfl (fun K hK => ?_) AllReadyH.nil
        go_simp
        have hBs := bset (bset hHeld (o := 0) hge (.int .i64 kk)) (o := 1) hge (.slice A8 n8 c8)
        refine hK.out _ _ (by first | exact hBs | (simp at hBs ⊢; exact hBs)) (fun hHeld2 => ?_)
        clear hK K
        (try simp only [Act.put, List.setIfInBounds_toArray, List.set_cons_zero, List.set_cons_succ])
        have hHeld := hHeld2
        refine take_want (i := 12) (v := ?v12k2) rfl (by kernel_rfl) (by kernel_rfl) (by kernel_rfl) (fun _ _ _ h => h) (by rfl) ?y12k2 (by assumption) ?r12k2
        case y12k2 => (intro w hSw; go_simp; all_goals with_reducible rfl)
        (try simp only [Act.put, List.setIfInBounds_toArray, List.set_cons_zero, List.set_cons_succ])
        refine wpAnyH_done (by kernel_rfl) ?_ _
        go_wp2_with fail
        go_meet
        have hbx2 := (HBX.out.set_ 0 (.int .i64 kk)).set_ 1 (.slice A8 n8 c8)
        simp at hbx2
        exact ⟨w8.heap.size, A8, n8, c8, rfl, rfl, HN8, HC8, HA8, Lib.hid hbx2, Lib.hid (own_less (own_set' (own_set' HR8.out (HR8.out.not_blk HBX.out (by decide))) (HR8.out.not_blk HBX.out (by decide))) (Nat.zero_le _)), Lib.hid hHeld2, Lib.hid hge⟩
      · have hge : wr.heap.size ≤ wr.heap.size := Nat.le_refl _
        go_simp
        have hk := bpush hHeld (.cells #[.int .i64 0, .slice none 0 0] 27)
        refine hK.out _ _ (by first | exact hk | (simp at hk ⊢; exact hk)) (fun hHeld => ?_)
        clear hK K
        (try simp only [Act.put, List.setIfInBounds_toArray, List.set_cons_zero, List.set_cons_succ])
        obtain ⟨wz, hwz⟩ : ∃ x, x = (wr.alloc (.cells #[.int .i64 0, .slice none 0 0] 27)).drew := ⟨_, rfl⟩
        have hbz : Below wr.heap.size wr wz := by rw [hwz]; first | exact bpush (Below.refl _ _) _ | exact below_drewN (bpush (Below.refl _ _) _) 1
        have hbx : Blk wz wr.heap.size 27 #[.int .i64 0, .slice none 0 0] := by rw [hwz]; exact Blk.new wr 27 _
        have hzs : wr.heap.size < wz.heap.size := by rw [hwz]; simp
        rw [← hwz] at hHeld ⊢
        clear hwz hk
        refine wpAnyH_ready (rs := [6]) (by kernel_rfl) (by simp) ?_
        refine AllReadyH.cons rfl (fun K hK => ?_) AllReadyH.nil
        go_simp
        (go_at_call 11; refine (HCH.out _ hHeld).mono ?_; rintro e w8 ⟨A8, n8, c8, rfl, hn8, hc8, ha8, -, hb, hr8⟩; have HN8 := Lib.hid hn8; clear hn8)
        have hk := bthen hHeld hb
        refine hK.out _ _ (hk) (fun hHeld => ?_)
        clear hK K
        (try simp only [Act.put, List.setIfInBounds_toArray, List.set_cons_zero, List.set_cons_succ])
        refine take_want (i := 7) (v := ?v7k3) rfl (by kernel_rfl) (by kernel_rfl) (by kernel_rfl) (fun _ _ _ h => h) (by rfl) ?y7k3 (by assumption) ?r7k3
        case y7k3 => (intro w hSw; go_simp; all_goals with_reducible rfl)
        (try simp only [Act.put, List.setIfInBounds_toArray, List.set_cons_zero, List.set_cons_succ])
        refine take_want (i := 8) (v := ?v8k3) rfl (by kernel_rfl) (by kernel_rfl) (by kernel_rfl) (fun _ _ _ h => h) (by rfl) ?y8k3 (by assumption) ?r8k3
        case y8k3 => (intro w hSw; go_simp; all_goals with_reducible rfl)
        (try simp only [Act.put, List.setIfInBounds_toArray, List.set_cons_zero, List.set_cons_succ])
        refine take_want (i := 9) (v := ?v9k3) rfl (by kernel_rfl) (by kernel_rfl) (by kernel_rfl) (fun _ _ _ h => h) (by rfl) ?y9k3 (by assumption) ?r9k3
        case y9k3 => (intro w hSw; go_simp; all_goals with_reducible rfl)
        (try simp only [Act.put, List.setIfInBounds_toArray, List.set_cons_zero, List.set_cons_succ])
        have hbx := hbx.grown (grown_none hb) (by simp)
        have HBX := Lib.hid hbx
        have HR8 := Lib.hid hr8
        have HC8 := Lib.hid hc8
        have HA8 := Lib.hid ha8
        clear hbx hr8 hc8 ha8
        have e0 := HBX.out.cell 0
        have e1 := HBX.out.cell 1
        simp at e0 e1
        have ef := HBX.out.frozen
        refine wpAnyH_ready (rs := [11]) (by kernel_rfl) (by simp) ?_
        refine AllReadyH.cons rfl (fun K hK => ?_) AllReadyH.nil
        go_simp
        have hBs := bset (bset hHeld (o := 0) hge (.int .i64 kk)) (o := 1) hge (.slice A8 n8 c8)
        refine hK.out _ _ (by first | exact hBs | (simp at hBs ⊢; exact hBs)) (fun hHeld2 => ?_)
        clear hK K
        (try simp only [Act.put, List.setIfInBounds_toArray, List.set_cons_zero, List.set_cons_succ])
        have hHeld := hHeld2
        refine take_want (i := 12) (v := ?v12k3) rfl (by kernel_rfl) (by kernel_rfl) (by kernel_rfl) (fun _ _ _ h => h) (by rfl) ?y12k3 (by assumption) ?r12k3
        case y12k3 => (intro w hSw; go_simp; all_goals with_reducible rfl)
        (try simp only [Act.put, List.setIfInBounds_toArray, List.set_cons_zero, List.set_cons_succ])
        refine wpAnyH_done (by kernel_rfl) ?_ _
        go_wp2_with fail
        go_meet
        have hbx2 := (HBX.out.set_ 0 (.int .i64 kk)).set_ 1 (.slice A8 n8 c8)
        simp at hbx2
        exact ⟨wr.heap.size, A8, n8, c8, rfl, rfl, HN8, HC8, HA8, Lib.hid hbx2, Lib.hid (own_less (own_set' (own_set' HR8.out (HR8.out.not_blk HBX.out (by decide))) (HR8.out.not_blk HBX.out (by decide))) (Nat.zero_le _)), Lib.hid hHeld2, Lib.hid hge⟩
    case rest =>
    obtain ⟨g19, A8, n8, c8, rfl, rfl, HN8, HC8, HA8, HB8, HO8, HBX, HG19⟩ := hcut
    obtain ⟨wx, hwx⟩ : ∃ W, W = wc := ⟨_, rfl⟩
    subst hwx
    have HX := Lib.hid (HX.out.keep HBX.out)
    have HY := Lib.hid (HY.out.keep HBX.out)
    have HA := Lib.hid (HA.out.keep HBX.out)
    have HB := Lib.hid (HB.out.keep HBX.out)
    have HTK := Lib.hid (own_below HTK.out HBX.out)
    have HSPX := Lib.hid (HSPR.out.grown (grown_none HBX.out) (by simp))
    have HBRX := Lib.hid (bthen HBR.out HBX.out)
    have HBWX := Lib.hid (HBWR.out.trans (HBX.out.mono HBWR.out.size))
    have hzx := HBX.out.size
    have hzr := HZR.out
    by_cases he : err = 0
    case neg =>
      have z1 : (err != 0) = true := by rw [bne_iff_ne]; exact he
      have HSOX := Lib.hid (own_below HSOR.out HBX.out)
      clear he
      go_wp2_with fail
      go_roundw
      case rel => exact ⟨i + 1, K, S, SA, sc, Vx, Va, Vb, Ea, Eb, tA, tc, nt, rfl, by go_num, by have := HLT.out; omega, by omega, HNT, HTK, HKZ, HSPX, HSOX, HSPN, HX, HY, HA, HB, HHX, HHA, HHB, HPM, HBRX, HBWX, Lib.hid (by omega)⟩
      case measure => have := HLT.out; simp [intOf]; omega
    case pos =>
    subst he
    obtain ⟨hv0, hkk, hk1, hsp2⟩ := HSPN.out.more (z := z) (k := (nt : Nat)) (k' := kk) (T := T) (v := v) (L := L) (fun e => (HVC.out.ok e).xl) (by rw [← HMM.out]; exact HCHG.out.symm)
    subst hv0
    have HEV := Lib.hid (HVC.out.ok rfl)
    have HSPN2 := Lib.hid hsp2
    have hn8 : n8 = m := by rw [HN8.out, hsp2.len, HMM.out]
    have hk48 : nt + 1 ≤ 1048576 := by omega
    have HTB := Lib.hid (fun (j : Nat) (hj : j < M.length) => show totJ K j + totJ [z] j ≤ 4611686018427387904 by rw [← totJ_app]; exact hsp2.bd hj)
    subst hn8
    have hkn : kk = ((nt + 1 : Nat) : Int) := by omega
    subst hkn
    have b0 := HB8.out.cell 0
    have b1 := HB8.out.cell 1
    have y0 := HSPX.out.cell 0
    have y1 := HSPX.out.cell 1
    have yf := HSPX.out.frozen
    simp at b0 b1 y0 y1
    clear hsp2 hk1 HCHG HCH HCEL HSPN HSPR HSOR
    go_upto_region 16 with fail
    obtain ⟨W15, hW15⟩ : ∃ W, W = (wx.setCell ⟨sp, 0, none⟩ (.int .i64 ((nt : Int) + 1))).setCell ⟨sp, 1, none⟩ (.slice A8 n8 c8) := ⟨_, rfl⟩
    have hnr : Near sp wx.heap.size wx W15 := by rw [hW15]; exact Near.set (Near.set (Near.refl _ _ _) (.inl rfl) _) (.inl rfl) _
    have HX := Lib.hid (HX.out.nearT HSPX.out (by decide) (by decide) (by decide) hnr)
    have HY := Lib.hid (HY.out.nearT HSPX.out (by decide) (by decide) (by decide) hnr)
    have HA := Lib.hid (HA.out.nearT HSPX.out (by decide) (by decide) (by decide) hnr)
    have HB := Lib.hid (HB.out.nearT HSPX.out (by decide) (by decide) (by decide) hnr)
    have HTK := Lib.hid (show W15.ownsRow W6.heap.size 29 3 (.slice tA nt tc) nt (cellsV K) by rw [hW15]; exact own_set' (own_set' HTK.out (HTK.out.not_blk HSPX.out (by decide))) (HTK.out.not_blk HSPX.out (by decide)))
    have HSO := Lib.hid (show W15.ownsRow 0 3 1 (.slice A8 n8 c8) n8 (intsV T) by rw [hW15]; exact own_set' (own_set' HO8.out (HO8.out.not_blk HSPX.out (by decide))) (HO8.out.not_blk HSPX.out (by decide)))
    have HSP5 := Lib.hid (show Blk W15 sp 27 #[.int .i64 ((nt + 1 : Nat) : Int), .slice A8 n8 c8] by
      rw [hW15]
      have h := (HSPX.out.set_ 0 (.int .i64 ((nt : Int) + 1))).set_ 1 (.slice A8 n8 c8)
      simp at h
      rw [show ((nt + 1 : Nat) : Int) = (nt : Int) + 1 by omega]
      exact h)
    have HBR5 := Lib.hid (show Below w.heap.size w W15 by rw [hW15]; exact bset (bset HBRX.out (b := sp) (o := 0) (by omega) _) (b := sp) (o := 1) (by omega) _)
    have HBW5x := Lib.hid (show Below W0.heap.size W0 W15 by rw [hW15]; exact bset (bset HBWX.out (b := sp) (o := 0) (by omega) _) (b := sp) (o := 1) (by omega) _)
    have hz15 : W15.heap.size = wx.heap.size := by rw [hW15]; simp
    have hz15' : W6.heap.size ≤ W15.heap.size := by omega
    rw [← hW15]
    have HW15 := Lib.hid hW15
    clear hW15 hnr b0 b1 y0 y1 yf hz15 HB8 HO8 HSPX
    obtain ⟨c0, c1, c2⟩ := HEC.out W15 HBR5.out
    obtain ⟨i1, hi1, hq0, hq1, hq2⟩ := info_parts info29
    have hnt60 : nt ≤ 60 := by omega
    go_upto_region 17 with (at_builtin; refine wpList_append_own_at _ rfl _ _ 31 rfl W6.heap.size 29 i1 (.agg #[.int .i64 0, .slice none 0 0, .slice none 0 0]) 3 56 Tryz.underlying31 hi1 hq0 hq1 hq2 rfl (by decide) (.slice tA nt tc) nt (cellsV K) rfl (HTK.out.alloc _) ⟨W15.heap.size, 0, none⟩ 1 1 (encV z) rfl rfl (Row.made rfl rfl).at' (by intro u hu; simp [encV] at hu; rcases hu with rfl | rfl | rfl <;> rfl) (by unfold maxLen; omega) (by omega) (by simp; omega) ?_; intro v16 w16 ho16 hg16 _ _)
    obtain ⟨W15a, hW15a⟩ : ∃ W, W = W15.alloc (.cells #[.int .i64 z.t, .slice z.E z.p z.q, .slice z.F z.x z.y] 29) := ⟨_, rfl⟩
    have hba : Below W15.heap.size W15 W15a := by rw [hW15a]; exact bpush (Below.refl _ _) _
    have hoa : W15a.ownsRow W6.heap.size 29 3 (.slice tA nt tc) nt (cellsV K) := by rw [hW15a]; exact HTK.out.alloc _
    have hga : W15a.grownBy w16 (Value.slice tA nt tc).ownBlock := by rw [hW15a]; exact hg16
    have HTK := Lib.hid (show w16.ownsRow W6.heap.size 29 3 v16 (nt + 1) (cellsV (K ++ [z])) by rw [cellsV_app]; simpa [cellsV] using ho16)
    obtain ⟨-, tA2, tc2, rfl, -⟩ := own_sliceV HTK.out
    have HX := Lib.hid ((HX.out.keep hba).grown29 hoa hga)
    have HY := Lib.hid ((HY.out.keep hba).grown29 hoa hga)
    have HA := Lib.hid ((HA.out.keep hba).grown29 hoa hga)
    have HB := Lib.hid ((HB.out.keep hba).grown29 hoa hga)
    have HSO := Lib.hid ((own_below HSO.out hba).kept hga (own_not_own (own_below HSO.out hba) hoa (by decide)))
    have hsp5 := HSP5.out.grown (grown_none hba) (by simp)
    have HSP5 := Lib.hid (hsp5.grown hga (hoa.not_blk hsp5 (by decide)))
    have hza := hba.size
    have hbb : Below W6.heap.size W15 w16 := (hba.mono hz15').trans (grown_below4 hoa hga (by omega))
    have HBR5 := Lib.hid (HBR5.out.trans (hbb.mono (by omega)))
    have HBW5x := Lib.hid (HBW5x.out.trans (hbb.mono (by omega)))
    have hz16 : W6.heap.size ≤ w16.heap.size := by have := hga.size; omega
    clear ho16 hg16 hW15a hba hoa hga hsp5 hza hbb c0 c1 c2 hi1 hq0 hq1 hq2 HW15
    obtain ⟨c0, c1, c2⟩ := HEC.out w16 HBR5.out
    have HKZ2 := Lib.hid (show ∀ y ∈ K ++ [z], y ∈ Z ∧ EvOk L M y.D y.X y.t from fun y hy => by
      rcases List.mem_append.1 hy with h1 | h1
      · exact HKZ.out y h1
      · rw [List.mem_singleton.1 h1]; exact ⟨HZI.out, HEV.out⟩)
    -- x
    have hxm := addR_more HHX.out HGR.out (fun a ha => (HX.out.ok a ha).r) HEV.out (by have := HNT.out; omega) HTB.out
    have hax := HADD.out w1.heap.size xb xm z HZI.out Vx nt hnt60 HVC.out w16 HBR5.out HX.out
    obtain ⟨⟨ax, Vx2⟩, hxr⟩ : ∃ r, r = addR Vx 0 (rowX z.t g z.D z.X) := ⟨_, rfl⟩
    rw [← hxr] at hxm hax
    obtain ⟨hx0, hxh⟩ := hxm
    simp only at hx0
    subst hx0
    have HAX := Lib.hid hax
    have HHX2 := Lib.hid hxh
    clear hax hxh hxr
    go_upto_region 19 with (go_at_call 18; refine HAX.out.mono ?_; rintro e w17 ⟨rfl, hi17, hk17⟩)
    have HX0 := HX
    have HX := Lib.hid (show Ix w17 w1.heap.size xb xm g L M Vx2 (nt + 1) from hi17)
    have HY := Lib.hid (HY.out.other HX0.out (by have := HNE.out; omega) (by have := HNE.out; omega) hk17)
    have HA := Lib.hid (HA.out.other HX0.out (by have := HNE.out; omega) (by have := HNE.out; omega) hk17)
    have HB := Lib.hid (HB.out.other HX0.out (by have := HNE.out; omega) (by have := HNE.out; omega) hk17)
    have HTK := Lib.hid (HX0.out.kown hk17 HTK.out (by decide))
    have HSO := Lib.hid (HX0.out.kown hk17 HSO.out (by decide))
    have HSP5 := Lib.hid (HX0.out.kblk hk17 HSP5.out (by decide))
    have hlx := HX0.out.lx
    have hlm := HX0.out.lm
    have HBR7 := Lib.hid (HBR5.out.trans (hk17.below (by omega) (by omega) HBR5.out.size))
    have HBW7 := Lib.hid (HBW5x.out.trans (hk17.below (by omega) (by omega) HBW5x.out.size))
    have hz17 : W6.heap.size ≤ w17.heap.size := by have := hk17.size; omega
    clear hi17 hk17 c0 c1 c2 HAX HX0 hlx hlm
    obtain ⟨c0, c1, c2⟩ := HEC.out w17 HBR7.out
    have hpl := HPM.out.length_eq
    rw [List.length_append] at hpl
    have hea : Ea.length ≤ nt ∧ Eb.length ≤ nt := by have := HNT.out; omega
    have HTA := Lib.hid (show ∀ j, j < M.length → totJ Ea j + totJ [z] j ≤ 4611686018427387904 from fun j hj => by
      have h1 := HTB.out j hj
      have h2 := totJ_perm HPM.out j
      rw [totJ_app] at h2
      have h3 := totJ_ge Eb j
      omega)
    have HTBB := Lib.hid (show ∀ j, j < M.length → totJ Eb j + totJ [z] j ≤ 4611686018427387904 from fun j hj => by
      have h1 := HTB.out j hj
      have h2 := totJ_perm HPM.out j
      rw [totJ_app] at h2
      have h3 := totJ_ge Ea j
      omega)
    have HNT2 := Lib.hid (show nt + 1 = (K ++ [z]).length by rw [List.length_append, ← HNT.out]; rfl)
    clear hpl
    by_cases hpar : (i : Int) % 2 = 0
    case pos =>
      have z5 : ((i : Int) % 2 == 0) = true := by rw [beq_iff_eq]; exact hpar
      clear hpar
      have hxm := addR_more HHA.out HGR.out (fun a ha => (HA.out.ok a ha).r) HEV.out (by omega) HTA.out
      have hax := HADD.out w3.heap.size ab am z HZI.out Va Ea.length (by omega) HVC.out w17 HBR7.out HA.out
      obtain ⟨⟨ax, Va2⟩, hxr⟩ : ∃ r, r = addR Va 0 (rowX z.t g z.D z.X) := ⟨_, rfl⟩
      rw [← hxr] at hxm hax
      obtain ⟨hx0, hxh⟩ := hxm
      simp only at hx0
      subst hx0
      have HAX := Lib.hid hax
      have HHN := Lib.hid hxh
      clear hax hxh hxr
      go_wp2_with (go_at_call 18; refine HAX.out.mono ?_; rintro e w18 ⟨rfl, hi18, hk18⟩)
      have H0 := HA
      have HAn := Lib.hid (show Ix w18 w3.heap.size ab am g L M Va2 (Ea ++ [z]).length by rw [List.length_append]; exact hi18)
      have HX := Lib.hid (HX.out.other H0.out (by have := HNE.out; omega) (by have := HNE.out; omega) hk18)
      have HY := Lib.hid (HY.out.other H0.out (by have := HNE.out; omega) (by have := HNE.out; omega) hk18)
      have HB := Lib.hid (HB.out.other H0.out (by have := HNE.out; omega) (by have := HNE.out; omega) hk18)
      have HTK := Lib.hid (H0.out.kown hk18 HTK.out (by decide))
      have HSO := Lib.hid (H0.out.kown hk18 HSO.out (by decide))
      have HSP5 := Lib.hid (H0.out.kblk hk18 HSP5.out (by decide))
      have hlx := H0.out.lx
      have hlm := H0.out.lm
      have HBR8 := Lib.hid (HBR7.out.trans (hk18.below (by omega) (by omega) HBR7.out.size))
      have HBW8 := Lib.hid (HBW7.out.trans (hk18.below (by omega) (by omega) HBW7.out.size))
      have hz18 : W6.heap.size ≤ w18.heap.size := by have := hk18.size; omega
      have HPM2 := Lib.hid (show ((Ea ++ [z]) ++ Eb).Perm (K ++ [z]) from by
        refine (List.Perm.trans ?_ (HPM.out.append_right [z]))
        rw [List.append_assoc, List.append_assoc]
        exact List.Perm.append_left _ List.perm_append_comm)
      clear hi18 hk18 c0 c1 c2 HAX H0 hlx hlm
      go_roundw
      case rel => exact ⟨i + 1, K ++ [z], T, A8, c8, Vx2, Va2, Vb, Ea ++ [z], Eb, tA2, tc2, nt + 1, rfl, by go_num, by have := HLT.out; omega, by omega, HNT2, HTK, HKZ2, HSP5, HSO, HSPN2, HX, HY, HAn, HB, HHX2, HHN, HHB, HPM2, HBR8, HBW8, Lib.hid hz18⟩
      case measure => have := HLT.out; simp [intOf]; omega
    case neg =>
      have z5 : ((i : Int) % 2 == 0) = false := by rw [beq_eq_false_iff_ne]; exact hpar
      clear hpar
      have hxm := addR_more HHB.out HGR.out (fun a ha => (HB.out.ok a ha).r) HEV.out (by omega) HTBB.out
      have hax := HADD.out w4.heap.size bb bm z HZI.out Vb Eb.length (by omega) HVC.out w17 HBR7.out HB.out
      obtain ⟨⟨ax, Vb2⟩, hxr⟩ : ∃ r, r = addR Vb 0 (rowX z.t g z.D z.X) := ⟨_, rfl⟩
      rw [← hxr] at hxm hax
      obtain ⟨hx0, hxh⟩ := hxm
      simp only at hx0
      subst hx0
      have HAX := Lib.hid hax
      have HHN := Lib.hid hxh
      clear hax hxh hxr
      go_wp2_with (go_at_call 18; refine HAX.out.mono ?_; rintro e w18 ⟨rfl, hi18, hk18⟩)
      have H0 := HB
      have HBn := Lib.hid (show Ix w18 w4.heap.size bb bm g L M Vb2 (Eb ++ [z]).length by rw [List.length_append]; exact hi18)
      have HX := Lib.hid (HX.out.other H0.out (by have := HNE.out; omega) (by have := HNE.out; omega) hk18)
      have HY := Lib.hid (HY.out.other H0.out (by have := HNE.out; omega) (by have := HNE.out; omega) hk18)
      have HA := Lib.hid (HA.out.other H0.out (by have := HNE.out; omega) (by have := HNE.out; omega) hk18)
      have HTK := Lib.hid (H0.out.kown hk18 HTK.out (by decide))
      have HSO := Lib.hid (H0.out.kown hk18 HSO.out (by decide))
      have HSP5 := Lib.hid (H0.out.kblk hk18 HSP5.out (by decide))
      have hlx := H0.out.lx
      have hlm := H0.out.lm
      have HBR8 := Lib.hid (HBR7.out.trans (hk18.below (by omega) (by omega) HBR7.out.size))
      have HBW8 := Lib.hid (HBW7.out.trans (hk18.below (by omega) (by omega) HBW7.out.size))
      have hz18 : W6.heap.size ≤ w18.heap.size := by have := hk18.size; omega
      have HPM2 := Lib.hid (show (Ea ++ (Eb ++ [z])).Perm (K ++ [z]) from by
        rw [← List.append_assoc]
        exact HPM.out.append_right [z])
      clear hi18 hk18 c0 c1 c2 HAX H0 hlx hlm
      go_roundw
      case rel => exact ⟨i + 1, K ++ [z], T, A8, c8, Vx2, Va, Vb2, Ea, Eb ++ [z], tA2, tc2, nt + 1, rfl, by go_num, by have := HLT.out; omega, by omega, HNT2, HTK, HKZ2, HSP5, HSO, HSPN2, HX, HY, HA, HBn, HHX2, HHA, HHN, HPM2, HBR8, HBW8, Lib.hid hz18⟩
      case measure => have := HLT.out; simp [intOf]; omega
end Go.Proofs.YtmmeekmiildliaaGreatDoor
