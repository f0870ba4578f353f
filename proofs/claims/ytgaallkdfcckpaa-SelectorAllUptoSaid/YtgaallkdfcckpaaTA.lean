/- All (4): the walk. -/
import Derived.Test.YtgaallkdfcckpaaSV
import Derived.Test.YtgaallkdfcckpaaSZ
namespace Go.Proofs.Ytgaallkdfcckpaa
open Go.RowKit Go.Maps Go.Lib Go.Shelf
set_option linter.unusedSimpArgs false
set_option linter.unusedVariables false
set_option maxRecDepth 100000 in
set_option maxHeartbeats 64000000 in
theorem all_walk (m : MZ) (q : QZ) (w : World) (hm : MIn w m) (hq : QIn w q) (hd1 : m.dn ≤ 1100000) (hd2 : m.mn ≤ 1100000) (hds : ∀ s ∈ m.D, s.size ≤ 9223372036854775807) (hms : ∀ s ∈ m.M, s.size ≤ 9223372036854775807) : Calls Try.prog 4 #[.agg #[.slice m.dA m.dn m.dc, .slice m.mA m.mn m.mc, .slice m.p.tA m.p.tn m.p.tc, .slice m.p.jA m.p.jn m.p.jc, .int .i64 m.p.hor, .int .i64 m.now, .slice m.eA m.en m.ec, .int .i64 m.cnt, .slice m.sA m.sn m.sc, .slice m.fA m.fn m.fc, .string m.jr, .int .i64 m.nxt], .agg #[.slice q.tA q.tn q.tc, .int .i64 q.frm, .int .i64 q.upto, .int .i64 q.every, .slice q.bA q.bn q.bc, .int .i64 q.f.op, .string q.f.dim, .string q.f.val, .slice q.f.A q.f.n q.f.c, .slice q.hA q.hn q.hc, .int .i64 q.order, .int .i64 q.limit]] w (fun e w' => e = .returned (.bool true) ∧ Below w.heap.size w w') := by
  obtain ⟨wa, hwa⟩ : ∃ wa, wa = w.alloc (.cells #[.slice m.dA m.dn m.dc, .slice m.mA m.mn m.mc, .slice m.p.tA m.p.tn m.p.tc, .slice m.p.jA m.p.jn m.p.jc, .int .i64 m.p.hor, .int .i64 m.now, .slice m.eA m.en m.ec, .int .i64 m.cnt, .slice m.sA m.sn m.sc, .slice m.fA m.fn m.fc, .string m.jr, .int .i64 m.nxt] 34) := ⟨_, rfl⟩
  obtain ⟨w1, hw1⟩ : ∃ w1, w1 = wa.alloc (.cells #[.slice q.tA q.tn q.tc, .int .i64 q.frm, .int .i64 q.upto, .int .i64 q.every, .slice q.bA q.bn q.bc, .int .i64 q.f.op, .string q.f.dim, .string q.f.val, .slice q.f.A q.f.n q.f.c, .slice q.hA q.hn q.hc, .int .i64 q.order, .int .i64 q.limit] 42) := ⟨_, rfl⟩
  have ba : Below w.heap.size w wa := by rw [hwa]; exact bpush (Below.refl _ _) _
  have bb : Below wa.heap.size wa w1 := by rw [hw1]; exact bpush (Below.refl _ _) _
  have kM : Blk wa w.heap.size 34 #[.slice m.dA m.dn m.dc, .slice m.mA m.mn m.mc, .slice m.p.tA m.p.tn m.p.tc, .slice m.p.jA m.p.jn m.p.jc, .int .i64 m.p.hor, .int .i64 m.now, .slice m.eA m.en m.ec, .int .i64 m.cnt, .slice m.sA m.sn m.sc, .slice m.fA m.fn m.fc, .string m.jr, .int .i64 m.nxt] := by rw [hwa]; exact Blk.new _ _ _
  have kQ : Blk w1 wa.heap.size 42 #[.slice q.tA q.tn q.tc, .int .i64 q.frm, .int .i64 q.upto, .int .i64 q.every, .slice q.bA q.bn q.bc, .int .i64 q.f.op, .string q.f.dim, .string q.f.val, .slice q.f.A q.f.n q.f.c, .slice q.hA q.hn q.hc, .int .i64 q.order, .int .i64 q.limit] := by rw [hw1]; exact Blk.new _ _ _
  have sza : wa.heap.size = w.heap.size + 1 := by rw [hwa]; simp
  rw [sza] at kQ
  have kM := kM.below bb
  have hb1 := bthen ba bb
  have HB1 := Lib.hid hb1
  obtain ⟨G, hGe⟩ : ∃ G, G = w.heap.size := ⟨_, rfl⟩
  obtain ⟨Q, hQe⟩ : ∃ Q, Q = w.heap.size + 1 := ⟨_, rfl⟩
  rw [← hGe] at kM
  rw [← hQe] at kQ
  have HKM := Lib.hid kM
  have HKQ := Lib.hid kQ
  have HM := Lib.hid (hm.keep (Nat.le_refl _) hb1)
  have HQ := Lib.hid (hq.keep (Nat.le_refl _) hb1)
  have HCE := Lib.hid (fun W (hW : Below w1.heap.size w1 W) => And.intro (m_cells (HKM.out.below hW)) (q_cells (HKQ.out.below hW)))
  have HW1 := Lib.hid (show w1 = (w.alloc (.cells #[.slice m.dA m.dn m.dc, .slice m.mA m.mn m.mc, .slice m.p.tA m.p.tn m.p.tc, .slice m.p.jA m.p.jn m.p.jc, .int .i64 m.p.hor, .int .i64 m.now, .slice m.eA m.en m.ec, .int .i64 m.cnt, .slice m.sA m.sn m.sc, .slice m.fA m.fn m.fc, .string m.jr, .int .i64 m.nxt] 34)).alloc (.cells #[.slice q.tA q.tn q.tc, .int .i64 q.frm, .int .i64 q.upto, .int .i64 q.every, .slice q.bA q.bn q.bc, .int .i64 q.f.op, .string q.f.dim, .string q.f.val, .slice q.f.A q.f.n q.f.c, .slice q.hA q.hn q.hc, .int .i64 q.order, .int .i64 q.limit] 42) by rw [hw1, hwa])
  have HE2 := Lib.hid (And.intro hGe hQe)
  have H7 := Lib.hid (fits7 m q w1 HM.out HQ.out hd1 hd2 hds hms)
  have HD1 := Lib.hid hd1
  obtain ⟨⟨d0, d1, d2, d3, d4, d5, d6, d7, d8, d9, d10, d11⟩, ⟨c0, c1, c2, c3, c4, c5, c6, c7, c8, c9, c10, c11⟩⟩ := HCE.out w1 (Below.refl _ _)
  clear hwa hw1 ba bb kM kQ sza hb1 hm hq hGe hQe hds hms hd1 hd2
  go_enter Try.func4, Try.ntmps4
  go_upto_region 1 with fail
  rw [← HW1.out, ← HE2.out.2, ← HE2.out.1]
  go_upto_region 2 with (go_at_call 7; refine H7.out.mono ?_; rintro e w2 ⟨⟨r, rfl, hr⟩, hb⟩; have HR := Lib.hid hr; have HB2 := Lib.hid hb; clear hb hr)
  clear d0 d1 d2 d3 d4 d5 d6 d7 d8 d9 d10 d11 c0 c1 c2 c3 c4 c5 c6 c7 c8 c9 c10 c11
  cases r with
  | false =>
    go_wp2_with (go_at_call 8; refine (alive_any _).mono ?_; rintro e w3 ⟨rfl, hb⟩; have HB3 := Lib.hid (bthen HB2.out hb); clear hb)
    go_ret
    exact ⟨rfl, bthen HB1.out HB3.out⟩
  | true =>
  have HF := Lib.hid (HR.out rfl)
  have HSO := Lib.hid (sel_ready HM.out HQ.out HF.out HD1.out)
  clear HR H7
  obtain ⟨⟨d0, d1, d2, d3, d4, d5, d6, d7, d8, d9, d10, d11⟩, ⟨c0, c1, c2, c3, c4, c5, c6, c7, c8, c9, c10, c11⟩⟩ := HCE.out w2 HB2.out
  obtain ⟨P, t, er, hP⟩ : ∃ P t er, chooseS (strS m.E q.frm q.upto m.en) (elC m.D q m.p) (pickS (elC m.D q m.p) m.F m.p.jn) = (P, t, er) := ⟨_, _, _, rfl⟩
  have HCC := Lib.hid (choose_cases hP)
  have H14 := Lib.hid (fun W (hW : Below w1.heap.size w1 W) => choose_any m.dA m.mA m.dn m.dc m.mn m.mc m.D q m.p m.eA m.en m.ec m.E m.fA m.fn m.fc m.F W (HSO.out.ch.keep (Nat.le_refl _) hW) P t er hP)
  clear hP
  obtain ⟨S, hS⟩ : ∃ S, S = strS m.E q.frm q.upto m.en := ⟨_, rfl⟩
  have HS := Lib.hid hS
  have H11 := Lib.hid (show Calls Try.prog 11 #[.agg #[.slice m.p.tA m.p.tn m.p.tc, .slice m.p.jA m.p.jn m.p.jc, .int .i64 m.p.hor], .slice m.eA m.en m.ec, .agg #[.slice q.tA q.tn q.tc, .int .i64 q.frm, .int .i64 q.upto, .int .i64 q.every, .slice q.bA q.bn q.bc, .int .i64 q.f.op, .string q.f.dim, .string q.f.val, .slice q.f.A q.f.n q.f.c, .slice q.hA q.hn q.hc, .int .i64 q.order, .int .i64 q.limit]] w2 (PlansP w2 S) by rw [HS.out]; exact str_any m.p q m.eA m.en m.ec m.E w2 (HSO.out.ch.keep (Nat.le_refl _) HB2.out).e HSO.out.ch.el HSO.out.ch.et HSO.out.ch.e20)
  have HSN := Lib.hid (show S.length ≤ 4 by rw [HS.out]; have := strS_len m.E q.frm q.upto m.en; have := HSO.out.en4; omega)
  have hen : m.en ≠ 0 := by have := HSO.out.ch.et; have := HM.out.pi.t.len; have := HF.out.r.pol.t1; omega
  obtain ⟨n1, hn1⟩ : ∃ n, m.en = n + 1 := ⟨m.en - 1, by omega⟩
  obtain ⟨low, hlow⟩ : ∃ x, x = max q.frm (m.E.getD n1 0) := ⟨_, rfl⟩
  have HCH := Lib.hid (show Chn q.upto S (min q.upto low) by
    have h := strS_chain m.E q.frm q.upto HSO.out.sel.fu HF.out.r.fall m.en (by have := HSO.out.ch.el; omega)
    rw [if_neg hen, hn1, Nat.add_sub_cancel, ← hlow] at h
    rw [HS.out, hn1]; exact h)
  have HXS := Lib.hid (show ∀ (k : Nat) (h : k < S.length), S[k].proj = -1 ∧ (∀ (j : Nat) (hj : k = j + 1), (S[j]'(by omega)).tier < S[k].tier) from fun k h => by
    have h1 : S[k] ∈ strS m.E q.frm q.upto m.en := by rw [← HS.out]; exact List.getElem_mem _
    obtain ⟨i, -, hxe, -⟩ := strS_mem h1
    refine ⟨by rw [hxe]; rfl, fun j hj => ?_⟩
    subst hj
    have h2 := strS_tiers m.E q.frm q.upto m.en j (j + 1) (by rw [← HS.out]; exact h) (by omega)
    simpa only [← HS.out] using h2)
  obtain ⟨eb, eo, hAe, ev⟩ := (HM.out.e.keep (Nat.le_refl _) HB2.out).cell (show n1 < m.E.length by have := HSO.out.ch.el; omega)
  have hel : (m.E[n1]'(by have := HSO.out.ch.el; omega)) = m.E.getD n1 0 := by rw [List.getD_eq_getElem?_getD, List.getElem?_eq_getElem (by have := HSO.out.ch.el; omega)]; rfl
  rw [hel] at ev
  obtain ⟨ee, hee⟩ : ∃ e, e = m.E.getD n1 0 := ⟨_, rfl⟩
  rw [← hee] at ev hlow
  have HEV := Lib.hid (fun W (hW : Below w2.heap.size w2 W) => cell_on hW ev)
  have HEA := Lib.hid (And.intro hAe hn1)
  have HLW := Lib.hid hlow
  clear hS hen hee hel ev hAe hlow hn1
  go_upto_region 5 with (go_at_call 11; refine H11.out.mono ?_; rintro e w3 ⟨v, rfl, ho, hb⟩; obtain ⟨A, c, rfl, hr, -, -⟩ := own_sliceX (L := S) ho; have HRA := Lib.hid hr; have HB3 := Lib.hid (bthen HB2.out hb); have HB23 := Lib.hid hb; clear hb ho hr)
  clear d0 d1 d2 d3 d4 d5 d6 d7 d8 d9 d10 d11 c0 c1 c2 c3 c4 c5 c6 c7 c8 c9 c10 c11
  obtain ⟨⟨d0, d1, d2, d3, d4, d5, d6, d7, d8, d9, d10, d11⟩, ⟨c0, c1, c2, c3, c4, c5, c6, c7, c8, c9, c10, c11⟩⟩ := HCE.out w3 HB3.out
  have ev := HEV.out w3 HB23.out
  rw [HEA.out.1, HEA.out.2] at d6
  have hn10 : (0 : Int) ≤ (n1 : Int) := by omega
  have hn11 : (n1 : Int) < ((n1 + 1 : Nat) : Int) := by omega
  have hn12 : n1 ≤ 4 := by have := HSO.out.en4; have := HEA.out.2; omega
  have hmx : (if q.frm < ee then ee else q.frm) = low := by have := HLW.out; split <;> omega
  go_quiet (fail)

  go_upto_region 8 with fail
  clear d0 d1 d2 d3 d4 d5 d6 d7 d8 d9 d10 d11 c0 c1 c2 c3 c4 c5 c6 c7 c8 c9 c10 c11 ev hn10 hn11 hn12 hmx
  go_loopw [8, 9] (fun v8 vi wr => ∃ k : Nat, k ≤ S.length ∧ vi = .int .i64 k ∧ v8 = .int .i64 (atK q.upto S k) ∧ Hid (Below w3.heap.size w3 wr)) (fun _ vi _ => S.length - (intOf vi).toNat)
  case atStart => exact ⟨0, by omega, rfl, rfl, Lib.hid (below_drewN (Below.refl _ _) _)⟩
  case round =>
    obtain ⟨k, hk, rfl, rfl, HBA⟩ := hrel
    obtain ⟨wo, rfl⟩ : ∃ wo : World, wo = wr := ⟨_, rfl⟩
    have HB := Lib.hid (bthen HB3.out HBA.out)
    by_cases hlt : k < S.length
    case neg =>
      obtain rfl : k = S.length := by omega
      have hge : ¬ (S.length : Int) < (S.length : Int) := by omega
      have hend := chn_end S _ _ HCH.out
      have HW3 := Lib.hid (bthen HB3.out HBA.out)
      obtain ⟨⟨d0, d1, d2, d3, d4, d5, d6, d7, d8, d9, d10, d11⟩, ⟨c0, c1, c2, c3, c4, c5, c6, c7, c8, c9, c10, c11⟩⟩ := HCE.out wo HB.out
      obtain ⟨n, hn⟩ : ∃ n, n = S.length := ⟨_, rfl⟩
      have HNS := Lib.hid hn
      have hn4 : n ≤ 4 := by have := HSN.out; omega
      have HRB := Lib.hid (HRA.out.keep (Nat.le_refl _) HBA.out)
      have H14' := Lib.hid (H14.out wo HB.out)
      have HLO := Lib.hid (show (n = 0 → q.upto ≤ low) ∧ (0 < n → low < q.upto ∧ atK q.upto S S.length = low) from by
        constructor
        · intro h
          have h2 : S = [] := List.eq_nil_of_length_eq_zero (by omega)
          have h3 := HCH.out
          rw [h2] at h3
          have h4 : q.upto = min q.upto low := h3
          omega
        · intro h
          have h2 := chn_lt HCH.out (by intro e; rw [e] at hn; simp at hn; omega)
          omega)
      obtain ⟨at0, ha0⟩ : ∃ a, a = atK q.upto S S.length := ⟨_, rfl⟩
      rw [← ha0] at HLO ⊢
      rw [← hn] at hge ⊢
      clear hlt hk hend hn ha0
      have hs15 : (n = 0 ∧ q.upto ≤ low) ∨ (∃ n', n = n' + 1 ∧ decide (q.upto ≤ low) = false ∧ at0 = low) := by
        rcases Nat.eq_zero_or_pos n with h | h
        · exact .inl ⟨h, HLO.out.1 h⟩
        · have := HLO.out.2 h
          exact .inr ⟨n - 1, by omega, by simp; omega, this.2⟩
      have HCP := Lib.hid (show (er = 261 ∧ P = []) ∨ (er = 0 ∧ P.length = n ∧ ∀ (k : Nat) (h : k < P.length) (h' : k < S.length), P[k].frm = S[k].frm ∧ P[k].upto = S[k].upto ∧ P[k].tier = S[k].tier ∧ elC m.D q m.p P[k] = true) from by
        rcases HCC.out with ⟨h1, h2, -⟩ | ⟨h1, h2, -, h3⟩
        · exact .inl ⟨h1, h2⟩
        · refine .inr ⟨h1, by rw [h2, List.length_map, HNS.out, HS.out], fun k h h' => ?_⟩
          have hel : elC m.D q m.p S[k] = true := h3 _ (by rw [← HS.out]; exact List.getElem_mem _)
          have h4 := pick_ok (F := m.F) (jn := m.p.jn) hel
          have h5 : P[k] = pickS (elC m.D q m.p) m.F m.p.jn S[k] := by
            simp only [h2, List.getElem_map, HS.out]
          rw [h5]
          exact h4)
      clear H14 HCC
      rcases hs15 with ⟨rfl, hlu⟩ | ⟨n', rfl, hlu, rfl⟩
      · skip
        go_upto_region 16 with (go_at_call 14; refine H14'.out.mono ?_; rintro e w6 ⟨XA, n6, k6, rfl, hn6, hr, hb⟩; have HRX := Lib.hid hr; have HN6 := Lib.hid hn6; have HB6 := Lib.hid hb; clear hr hb hn6)
        clear d0 d1 d2 d3 d4 d5 d6 d7 d8 d9 d10 d11 c0 c1 c2 c3 c4 c5 c6 c7 c8 c9 c10 c11 hlu hge
        rcases HCP.out with ⟨rfl, hP0⟩ | ⟨rfl, hPn, hPk⟩
        · obtain rfl : n6 = 0 := by rw [HN6.out, hP0]; rfl
          clear hP0
          go_wp2_with (go_at_call 8; refine (alive_any _).mono ?_; rintro e w8 ⟨rfl, hb⟩; have HB8 := Lib.hid hb; clear hb)
          go_ret
          exact ⟨rfl, bthen HB1.out (bthen HB.out (bthen HB6.out HB8.out))⟩
        · have HPK := Lib.hid hPk
          obtain rfl : n6 = 0 := by rw [HN6.out, hPn]
          have HPN := Lib.hid hPn
          clear hPn hPk HCP
          have HB16 := Lib.hid (bthen HB.out HB6.out)
          go_upto_region 19 with fail
          go_loopw [13] (fun vi wr => ∃ k : Nat, k ≤ 0 ∧ vi = .int .i64 k ∧ Hid (Below w6.heap.size w6 wr)) (fun vi _ => 0 - (intOf vi).toNat)
          case atStart => exact ⟨0, by omega, rfl, Lib.hid (Below.refl _ _)⟩
          case round =>
            obtain ⟨k, hk, rfl, HBC⟩ := hrel
            obtain ⟨wp, rfl⟩ : ∃ wp : World, wp = wr := ⟨_, rfl⟩
            have HBD := Lib.hid (bthen HB16.out HBC.out)
            by_cases hlt : k < 0
            case neg =>
              obtain rfl : k = 0 := by omega
              clear hlt
              go_wp2_with (go_at_call 8; refine (alive_any _).mono ?_; rintro e w8 ⟨rfl, hb⟩; have HB8 := Lib.hid hb; clear hb)
              go_ret
              exact ⟨by first | rfl | simp, bthen HB1.out (bthen HBD.out HB8.out)⟩
            case pos =>
            exact absurd hlt (Nat.not_lt_zero _)
      · skip
        go_upto_region 16 with (go_at_call 14; refine H14'.out.mono ?_; rintro e w6 ⟨XA, n6, k6, rfl, hn6, hr, hb⟩; have HRX := Lib.hid hr; have HN6 := Lib.hid hn6; have HB6 := Lib.hid hb; clear hr hb hn6)
        clear d0 d1 d2 d3 d4 d5 d6 d7 d8 d9 d10 d11 c0 c1 c2 c3 c4 c5 c6 c7 c8 c9 c10 c11 hlu hge
        rcases HCP.out with ⟨rfl, hP0⟩ | ⟨rfl, hPn, hPk⟩
        · obtain rfl : n6 = 0 := by rw [HN6.out, hP0]; rfl
          clear hP0
          go_wp2_with (go_at_call 8; refine (alive_any _).mono ?_; rintro e w8 ⟨rfl, hb⟩; have HB8 := Lib.hid hb; clear hb)
          go_ret
          exact ⟨rfl, bthen HB1.out (bthen HB.out (bthen HB6.out HB8.out))⟩
        · have HPK := Lib.hid hPk
          obtain rfl : n6 = n' + 1 := by rw [HN6.out, hPn]
          have HPN := Lib.hid hPn
          clear hPn hPk HCP
          have HB16 := Lib.hid (bthen HB.out HB6.out)
          go_upto_region 19 with fail
          go_loopw [13] (fun vi wr => ∃ k : Nat, k ≤ (n' + 1) ∧ vi = .int .i64 k ∧ Hid (Below w6.heap.size w6 wr)) (fun vi _ => (n' + 1) - (intOf vi).toNat)
          case atStart => exact ⟨0, by omega, rfl, Lib.hid (Below.refl _ _)⟩
          case round =>
            obtain ⟨k, hk, rfl, HBC⟩ := hrel
            obtain ⟨wp, rfl⟩ : ∃ wp : World, wp = wr := ⟨_, rfl⟩
            have HBD := Lib.hid (bthen HB16.out HBC.out)
            by_cases hlt : k < (n' + 1)
            case neg =>
              obtain rfl : k = (n' + 1) := by omega
              clear hlt
              go_wp2_with (go_at_call 8; refine (alive_any _).mono ?_; rintro e w8 ⟨rfl, hb⟩; have HB8 := Lib.hid hb; clear hb)
              go_ret
              exact ⟨by first | rfl | simp, bthen HB1.out (bthen HBD.out HB8.out)⟩
            case pos =>
            have hki : (k : Int) < (((n' + 1) : Nat) : Int) := by omega
            have hk0 : (0 : Int) ≤ (k : Int) := by omega
            have hkp : k < P.length := by have := HPN.out; omega
            have hks : k < S.length := by have := HNS.out; omega
            obtain ⟨bX, oX, hAX, r0, r1, r2, r3, r4⟩ := x_cells (HRX.out.keep (Nat.le_refl _) HBC.out) hkp
            obtain ⟨b, off, hAe, q0, q1, q2, q3, q4⟩ := x_cells (HRB.out.keep (Nat.le_refl _) (bthen HB6.out HBC.out)) hks
            obtain ⟨e0, e1, e2, hel⟩ := HPK.out k hkp hks
            rw [← e0] at q0
            rw [← e1] at q1
            rw [← e2] at q2
            obtain ⟨x, hx⟩ : ∃ x, x = P[k] := ⟨_, rfl⟩
            rw [← hx] at r0 r1 r2 r3 r4 q0 q1 q2 hel
            have HALL := Lib.hid (fun W (hW : Below wp.heap.size wp W) => And.intro (HCE.out W (bthen HBD.out hW)) (And.intro (And.intro (cell_on hW r0) (And.intro (cell_on hW r1) (And.intro (cell_on hW r2) (And.intro (cell_on hW r3) (cell_on hW r4))))) (And.intro (cell_on hW q0) (And.intro (cell_on hW q1) (cell_on hW q2)))))
            have HEL := Lib.hid (fun W (hW : Below wp.heap.size wp W) => show Calls Try.prog 12 #[.agg #[.slice m.dA m.dn m.dc, .slice m.mA m.mn m.mc], .agg #[.slice m.p.tA m.p.tn m.p.tc, .slice m.p.jA m.p.jn m.p.jc, .int .i64 m.p.hor], .agg #[.slice q.tA q.tn q.tc, .int .i64 q.frm, .int .i64 q.upto, .int .i64 q.every, .slice q.bA q.bn q.bc, .int .i64 q.f.op, .string q.f.dim, .string q.f.val, .slice q.f.A q.f.n q.f.c, .slice q.hA q.hn q.hc, .int .i64 q.order, .int .i64 q.limit], .agg #[.int .i64 x.frm, .int .i64 x.upto, .int .i64 x.tier, .int .i64 x.proj, .int .i64 x.rows]] W (fun e w' => e = .returned (.bool true) ∧ Below W.heap.size W w') from by
              have h := elig_any m.dA m.mA m.dn m.dc m.mn m.mc m.D q m.p x W ((HSO.out.ch.keep (Nat.le_refl _) (bthen HBD.out hW)).u) (HM.out.pi.keep (Nat.le_refl _) (bthen HBD.out hW))
              have h2 : eligC (usedQ m.D q) q.every m.p x = true := hel
              rw [h2] at h
              exact h)
            subst hAX hAe
            clear e0 e1 e2 hel hx hkp hks hlt r0 r1 r2 r3 r4 q0 q1 q2 q3 q4
            obtain ⟨⟨⟨d0, d1, d2, d3, d4, d5, d6, d7, d8, d9, d10, d11⟩, ⟨c0, c1, c2, c3, c4, c5, c6, c7, c8, c9, c10, c11⟩⟩, ⟨r0, r1, r2, r3, r4⟩, q0, q1, q2⟩ := HALL.out wp (Below.refl _ _)
            go_upto_region 21 with fail
            go_region_held3 (fun W => (W.cell? ⟨G, 0, none⟩ = some (.slice m.dA m.dn m.dc) ∧ W.cell? ⟨G, 1, none⟩ = some (.slice m.mA m.mn m.mc) ∧ W.cell? ⟨G, 2, none⟩ = some (.slice m.p.tA m.p.tn m.p.tc) ∧ W.cell? ⟨G, 3, none⟩ = some (.slice m.p.jA m.p.jn m.p.jc) ∧ W.cell? ⟨G, 4, none⟩ = some (.int .i64 m.p.hor) ∧ W.cell? ⟨Q, 0, none⟩ = some (.slice q.tA q.tn q.tc) ∧ W.cell? ⟨Q, 1, none⟩ = some (.int .i64 q.frm) ∧ W.cell? ⟨Q, 2, none⟩ = some (.int .i64 q.upto) ∧ W.cell? ⟨Q, 3, none⟩ = some (.int .i64 q.every) ∧ W.cell? ⟨Q, 4, none⟩ = some (.slice q.bA q.bn q.bc) ∧ W.cell? ⟨Q, 5, none⟩ = some (.int .i64 q.f.op) ∧ W.cell? ⟨Q, 6, none⟩ = some (.string q.f.dim) ∧ W.cell? ⟨Q, 7, none⟩ = some (.string q.f.val) ∧ W.cell? ⟨Q, 8, none⟩ = some (.slice q.f.A q.f.n q.f.c) ∧ W.cell? ⟨Q, 9, none⟩ = some (.slice q.hA q.hn q.hc) ∧ W.cell? ⟨Q, 10, none⟩ = some (.int .i64 q.order) ∧ W.cell? ⟨Q, 11, none⟩ = some (.int .i64 q.limit) ∧ W.cell? ⟨bX, oX + k * 5, none⟩ = some (.int .i64 x.frm) ∧ W.cell? ⟨bX, oX + k * 5 + 1, none⟩ = some (.int .i64 x.upto) ∧ W.cell? ⟨bX, oX + k * 5 + 2, none⟩ = some (.int .i64 x.tier) ∧ W.cell? ⟨bX, oX + k * 5 + 3, none⟩ = some (.int .i64 x.proj) ∧ W.cell? ⟨bX, oX + k * 5 + 4, none⟩ = some (.int .i64 x.rows) ∧ W.cell? ⟨b, off + k * 5, none⟩ = some (.int .i64 x.frm) ∧ W.cell? ⟨b, off + k * 5 + 1, none⟩ = some (.int .i64 x.upto) ∧ W.cell? ⟨b, off + k * 5 + 2, none⟩ = some (.int .i64 x.tier)) ∧ Below wp.heap.size wp W)
              (first
                | (obtain ⟨⟨⟨x0, x1, x2, x3, x4, x5, x6, x7, x8, x9, x10, x11⟩, ⟨u0, u1, u2, u3, u4, u5, u6, u7, u8, u9, u10, u11⟩⟩, ⟨v0, v1, v2, v3, v4⟩, y0, y1, y2⟩ := HALL.out _ hby; exact ⟨⟨x0, x1, x2, x3, x4, u0, u1, u2, u3, u4, u5, u6, u7, u8, u9, u10, u11, v0, v1, v2, v3, v4, y0, y1, y2⟩, hby⟩)
                | (obtain ⟨⟨⟨x0, x1, x2, x3, x4, x5, x6, x7, x8, x9, x10, x11⟩, ⟨u0, u1, u2, u3, u4, u5, u6, u7, u8, u9, u10, u11⟩⟩, ⟨v0, v1, v2, v3, v4⟩, y0, y1, y2⟩ := HALL.out _ (below_drewN (Below.refl _ _) 1); exact ⟨⟨x0, x1, x2, x3, x4, u0, u1, u2, u3, u4, u5, u6, u7, u8, u9, u10, u11, v0, v1, v2, v3, v4, y0, y1, y2⟩, below_drewN (Below.refl _ _) 1⟩))
              (first
                | (go_at_call 12; refine (HEL.out _ (below_drewN (Below.refl _ _) 1)).mono ?_; rintro e w7 ⟨rfl, hb⟩; have hby : Below wp.heap.size wp w7 := bthen (below_drewN (Below.refl _ _) 1) hb; clear hb))
            all_goals
              have HB9 := Lib.hid (bthen HBC.out hby)
              go_wp2_with fail
              go_roundw
              case rel => exact ⟨k + 1, by omega, by go_num, HB9⟩
              case measure => (simp [intOf] <;> omega)
    case pos =>
    have hs4 := HSN.out
    have hii : (k : Int) < (S.length : Int) := by omega
    have hi0 : (0 : Int) ≤ (k : Int) := by omega
    obtain ⟨b, off, hAe, q0, q1, q2, q3, q4⟩ := x_cells (HRA.out.keep (Nat.le_refl _) HBA.out) hlt
    have hat := chn_at S _ _ HCH.out k hlt
    have hxs := HXS.out k hlt
    have hn := show atK q.upto S (k + 1) = S[k].frm by show (S[k]?.map XZ.frm).getD 0 = _; rw [List.getElem?_eq_getElem hlt]; rfl
    rw [hat.1] at q1
    rw [hxs.1] at q3
    have hat2 := hat.2
    rw [← hn] at hat2 q0
    have HX := Lib.hid hlt
    subst hAe
    clear hat hn q4
    obtain ⟨a0, ha0⟩ : ∃ a, a = atK q.upto S k := ⟨_, rfl⟩
    obtain ⟨a1, ha1⟩ : ∃ a, a = atK q.upto S (k + 1) := ⟨_, rfl⟩
    rw [← ha0] at q1 hat2
    rw [← ha1] at q0 hat2
    rw [← ha0]
    have HA1 := Lib.hid ha1
    have hge : decide (a0 ≤ a1) = false := by simp; omega
    obtain ⟨xt, hxt⟩ : ∃ x, x = (S[k]'hlt).tier := ⟨_, rfl⟩
    rw [← hxt] at q2
    have HTR := Lib.hid (show ∀ (j : Nat) (hj : k = j + 1) (h : j < S.length), (S[j]'h).tier < xt from fun j hj h => by rw [hxt]; exact hxs.2 j hj)
    clear ha0 ha1 hxt hxs hlt
    rcases Nat.eq_zero_or_pos k with hz | hz
    · have hgt : decide ((0 : Int) < (k : Int)) = false := by simp; omega
      have hgt2 : decide (0 < k) = false := by simp; omega
      have HZ := Lib.hid hz
      clear hz
      go_upto_region 10 with fail
      go_quiet (fail)
      go_wp2_with fail
      go_roundw
      case rel => exact ⟨k + 1, by have := HX.out; omega, by go_num, by rw [HA1.out], Lib.hid (below_drewN HBA.out _)⟩
      case measure => simp [intOf]; omega
    · obtain ⟨j, rfl⟩ : ∃ j, k = j + 1 := ⟨k - 1, by omega⟩
      have htl := HTR.out j rfl (by have := HX.out; omega)
      obtain ⟨b', off', hAe, p0, p1, p2, p3, p4⟩ := x_cells (HRA.out.keep (Nat.le_refl _) HBA.out) (show j < S.length by have := HX.out; omega)
      cases hAe
      obtain ⟨yt, hyt⟩ : ∃ x, x = (S[j]'(by have := HX.out; omega)).tier := ⟨_, rfl⟩
      rw [← hyt] at p2 htl
      have hti : decide (xt ≤ yt) = false := by simp; omega
      have hj0 : (0 : Int) ≤ (j : Int) := by omega
      have hj1 : (j : Int) < (S.length : Int) := by omega
      have hgt : (0 : Int) < ((j + 1 : Nat) : Int) := by omega
      clear hyt p0 p1 p3 p4 htl
      go_upto_region 10 with fail
      go_quiet (fail)
      go_wp2_with fail
      go_roundw
      case rel => exact ⟨j + 1 + 1, by have := HX.out; omega, by go_num, by rw [HA1.out], Lib.hid (below_drewN HBA.out _)⟩
      case measure => simp [intOf]; omega
end Go.Proofs.Ytgaallkdfcckpaa
