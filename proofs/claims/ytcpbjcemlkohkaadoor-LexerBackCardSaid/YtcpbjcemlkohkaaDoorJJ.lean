/- LexerBack's walk. -/
import Derived.Test.YtcpbjcemlkohkaaDoorII
import Derived.Test.YtcpbjcemlkohkaaDoorGG
namespace Go.Proofs.YtcpbjcemlkohkaaDoor
open Go.RowKit
set_option linter.unusedSimpArgs false
set_option linter.unusedVariables false
theorem slice_one (b off n c k : Nat) (h : k + 1 ≤ c) (W : World) : Sem.run Tryd.prog (Instr.slice 23 (.slice (some ⟨b, off, none⟩) n c) (some (.int .i64 (k : Int))) (some (.int .i64 ((k : Int) + 1))) none) W = .ok (.slice (some ⟨b, off + k * 3, none⟩) 1 (c - k)) W := by
  have hs : ∀ W, Sem.run Tryd.prog (Go.sizeOf (Tryd.prog.elem 23)) W = .ok 3 W := fun _ => by kernel_rfl
  have e : Tryd.prog.elem 23 = 31 := by kernel_rfl
  rw [run_slice_lh W 23 (some ⟨b, off, none⟩) n c (by rw [e]; exact Tryd.underlying23) .i64 .i64 k ((k : Int) + 1) (by omega) (by omega) (by omega), hs]
  have e2 : (⟨b, off, none⟩ : Addr).add (k * 3) = ⟨b, off + k * 3, none⟩ := by
    unfold Addr.add; split
    · rename_i h; rw [h]; rfl
    · rfl
  have e3 : ((k : Int) + 1).toNat = k + 1 := by omega
  simp only [Result.andThen, sliced, Int.toNat_natCast, Option.map_some, e2, e3]
  rw [if_neg (by omega), show k + 1 - k = 1 by omega]
set_option maxRecDepth 100000 in
set_option maxHeartbeats 60000000 in
theorem back_walk (A : Option Addr) (n c : Nat) (L : List Tok) (s : ByteArray) (w : World) (hE : Er w) (hA : Row w A (cellsT L)) (hn : n = L.length) (hnc : n ≤ c) (hn2 : n ≤ 9223372036854775807) (hL : ∀ t ∈ L, t.2.1.size ≤ 9223372036854775807) (hs : s.size ≤ 9223372036854775807) :
    Calls Tryd.prog 5 #[.slice A n c, .string s] w fun e w' => e = .returned (.bool true) ∧ Below w.heap.size w w' := by
  obtain ⟨i0, hi0, hz0, hz1, hz2⟩ := info_parts info31
  have HE := Lib.hid hE
  have HA := Lib.hid hA
  have HN := Lib.hid hn
  have HL := Lib.hid hL
  have HSS := Lib.hid hs
  obtain ⟨zs, hzs⟩ : ∃ zs, s.size = zs := ⟨_, rfl⟩
  have HZS := Lib.hid (show s.size = zs from hzs)
  clear hE hA hn hL hs
  go_enter Tryd.func5, Tryd.ntmps5
  go_wp2_with fail
  go_loopw [5, 6, 7] (fun v x i wr => ∃ (k : Nat) (R : List Tok) (q : ByteArray), i = .int .i64 (k : Int) ∧ x = .string q ∧ k ≤ n ∧ k ≤ 100 ∧ R.length ≤ k ∧ q.size ≤ k * 1100 ∧ Hid (wr.ownsRow w.heap.size 31 3 v R.length (cellsT R)) ∧ Hid (smallT R) ∧ Hid (∀ t ∈ R, toks (textT t) = some [t]) ∧ Hid (toks (dat q) = some R) ∧ Hid (Below w.heap.size w wr)) (fun _ _ i _ => n - (intOf i).toNat)
  case atStart => exact ⟨0, [], ⟨#[]⟩, rfl, rfl, by omega, by omega, by simp, by decide, Lib.hid (World.ownsRow_nil _ _ _ _), Lib.hid (fun t ht => by cases ht), Lib.hid (fun t ht => by cases ht), Lib.hid rfl, Lib.hid (Below.refl _ _)⟩
  case round =>
    obtain ⟨k, R, q, rfl, rfl, hk, hk100, hRk, hqs, HO, HSM, HRT, HTQ, HBW⟩ := hrel
    obtain ⟨rl, hrl⟩ : ∃ rl, rl = R.length := ⟨_, rfl⟩
    rw [← hrl] at hRk HO
    obtain ⟨zq, hzq⟩ : ∃ zq, q.size = zq := ⟨_, rfl⟩
    have HZQ := Lib.hid (show q.size = zq from hzq)
    have hzq9 : zq ≤ k * 1100 := by omega
    have HRL := Lib.hid hrl
    have hszr : w.heap.size ≤ wr.heap.size := HBW.out.size
    clear hrl hqs
    by_cases hgo : k < n ∧ k < 100
    · obtain ⟨hlt, hlt2⟩ := hgo
      have hki : (k : Int) < (n : Int) := by omega
      have hki2 : (k : Int) < 100 := by omega
      have hk0 : (0 : Int) ≤ (k : Int) := by omega
      have hkL : k < L.length := by have := HN.out; omega
      obtain ⟨b1, o1, rfl, x0, x1, x2⟩ := (HA.out.keep (Nat.le_refl _) HBW.out).at3 hkL
      obtain ⟨⟨t0, t1, t2⟩, ht⟩ : ∃ t, t = L[k] := ⟨_, rfl⟩
      rw [← ht] at x0 x1 x2
      have HTK := Lib.hid ht
      obtain ⟨z1, hzt⟩ : ∃ z, t1.size = z := ⟨_, rfl⟩
      have hzm : z1 ≤ 9223372036854775807 := by have h := HL.out L[k] (List.getElem_mem _); rw [← ht] at h; rw [← hzt]; exact h
      clear ht hlt hlt2
      by_cases hbig : z1 ≤ 60
      case neg =>
        have kb : ¬ (z1 : Int) ≤ 60 := by omega
        clear hbig
        go_wp2_with fail
        go_roundw
        case rel => exact ⟨k + 1, R, q, by go_num, rfl, by omega, by omega, by rw [← HRL.out]; omega, by rw [HZQ.out]; omega, by rw [← HRL.out]; exact HO, HSM, HRT, HTQ, HBW⟩
        case measure => simp [intOf]; omega
      case pos =>
      have kb : (z1 : Int) ≤ 60 := by omega
      obtain ⟨r, hr⟩ : ∃ r : Bool, r = true ↔ rightT (t0, t1, t2) := bool_of (rightT (t0, t1, t2))
      have HR := Lib.hid hr
      have HTS := Lib.hid (show t1.size ≤ 1000 by omega)
      have HTL := Lib.hid (show (textT (t0, t1, t2)).length ≤ 62 by have h := textT_len (t0, t1, t2); have h2 : t1.size ≤ 60 := by omega
                                                                    exact Nat.le_trans h (by show t1.size + 2 ≤ 62; omega))
      clear hr
      go_wp2_with fail
      refine (right_any t0 t2 t1 _ (HE.out.keep HBW.out) HTS.out r HR.out).mono ?_
      rintro e w3 ⟨rfl, hb3⟩
      have HB3 := Lib.hid (bthen HBW.out hb3)
      have HO2 := Lib.hid (own_below3 HO.out hb3)
      have x0 := cell_on hb3 x0
      have x1 := cell_on hb3 x1
      have x2 := cell_on hb3 x2
      have hsz3 : w.heap.size ≤ w3.heap.size := HB3.out.size
      clear hb3
      cases r with
      | false =>
        go_wp2_with fail
        go_roundw
        case rel => exact ⟨k + 1, R, q, by go_num, rfl, by omega, by omega, by rw [← HRL.out]; omega, by rw [HZQ.out]; omega, by rw [← HRL.out]; exact HO2, HSM, HRT, HTQ, HB3⟩
        case measure => simp [intOf]; omega
      | true =>
        have HTT := Lib.hid (right_toks (HR.out.1 rfl))
        go_wp2_with (at_builtin; refine wpList_append_own _ rfl _ _ 23 rfl w.heap.size 31 i0 (.agg #[.int .i64 0, .string ⟨#[]⟩, .int .i64 0]) 3 32 Tryd.underlying23 hi0 hz0 hz1 hz2 rfl (by decide) _ _ _ rfl (HO2.out.alloc _) ⟨w3.heap.size, 0, none⟩ 1 1 [.int .i64 t0, .string t1, .int .i64 t2] rfl rfl ?c1 ?c2 ?c3 ?c4 ?c5 ?_)
        case c1 =>
          intro j u hj
          match j, hj with
          | 0, hj => simp at hj; subst hj; simp [Addr.add]
          | 1, hj => simp at hj; subst hj; simp [Addr.add]
          | 2, hj => simp at hj; subst hj; simp [Addr.add]
        case c2 => intro u hu; simp at hu; rcases hu with rfl | rfl | rfl <;> rfl
        case c3 => unfold maxLen; omega
        case c4 => omega
        case c5 => simp; omega
        intro v5 w5 ho5 hg5 _
        have hb5 : Below w.heap.size w3 w5 := ((Below.refl _ w3).alloc hsz3 _).trans (grown_own3 (HO2.out.alloc _) hg5 (by simp; omega))
        have HO5 := Lib.hid (show w5.ownsRow w.heap.size 31 3 v5 (R ++ [(t0, t1, t2)]).length (cellsT (R ++ [(t0, t1, t2)])) by rw [cellsT_app, List.length_append, ← HRL.out]; exact ho5)
        have HB5 := Lib.hid (HB3.out.trans hb5)
        have HSM5 := Lib.hid (show smallT (R ++ [(t0, t1, t2)]) from fun t ht => by
          rcases List.mem_append.1 ht with h | h
          · exact HSM.out t h
          · rw [List.mem_singleton.1 h]; exact HTS.out)
        have HRT5 := Lib.hid (show ∀ t ∈ R ++ [(t0, t1, t2)], toks (textT t) = some [t] from fun t ht => by
          rcases List.mem_append.1 ht with h | h
          · exact HRT.out t h
          · rw [List.mem_singleton.1 h]; exact HTT.out)
        have hsl := slice_one b1 o1 n c k (by omega)
        have HROW1 := Lib.hid (show Row w5 (some ⟨b1, o1 + k * 3, none⟩) (cellsT [(t0, t1, t2)]) from by
          obtain ⟨b', o', e', y0, y1, y2⟩ := (HA.out.keep (Nat.le_refl _) HB5.out).at3 hkL
          cases e'
          rw [← HTK.out] at y0 y1 y2
          refine .inr ⟨_, _, rfl, fun j u hu => ?_⟩
          match j, hu with
          | 0, hu => simp [cellsT] at hu; subst hu; exact y0
          | 1, hu => simp [cellsT] at hu; subst hu; exact y1
          | 2, hu => simp [cellsT] at hu; subst hu; exact y2
          | j + 3, hu => simp [cellsT] at hu)
        have HSM1 := Lib.hid (show smallT [(t0, t1, t2)] from fun t ht => by rw [List.mem_singleton.1 ht]; exact HTS.out)
        have hcap : 1 ≤ c - k := by omega
        clear ho5 hg5 hb5
        go_wp2_with fail
        refine (text_laws (some ⟨b1, o1 + k * 3, none⟩) 1 (c - k) [(t0, t1, t2)] _ HROW1.out rfl (by omega) HSM1.out).mono ?_
        obtain ⟨ut, hut⟩ : ∃ ut, ut = bsOf (textL [(t0, t1, t2)]) := ⟨_, rfl⟩
        rw [← hut]
        have HUT := Lib.hid (show dat ut = textT (t0, t1, t2) by rw [hut, dat_bs, textL_one])
        obtain ⟨zt, hztt⟩ : ∃ zt, ut.size = zt := ⟨_, rfl⟩
        have hzt9 : zt ≤ 62 := by have h := congrArg List.length HUT.out; rw [dat_len, hztt] at h; have := HTL.out; omega
        have HZTT := Lib.hid (show ut.size = zt from hztt)
        clear hut
        rintro e w6 ⟨rfl, hb6⟩
        have HB6 := Lib.hid (bthen HB5.out hb6)
        have HO6 := Lib.hid (own_below3 HO5.out hb6)
        have HQ6 := Lib.hid (show ∀ v : ByteArray, dat v = dat q ++ [32, 10] ++ dat ut ++ [9] → toks (dat v) = some (R ++ [(t0, t1, t2)]) from fun v hv => by
          have h1 := toks_sep (s := 9) rfl HTT.out toks_nil
          have h2 := toks_sep (s := 32) rfl HTQ.out (show toks (10 :: (textT (t0, t1, t2) ++ [9])) = some [(t0, t1, t2)] by rw [toks_blank (by rfl)]; simpa using h1)
          rw [hv, HUT.out]; simpa using h2)
        clear hb6 hsl
        go_wp2_with fail
        go_roundw
        case rel => exact ⟨k + 1, R ++ [(t0, t1, t2)], _, by go_num, rfl, by omega, by omega, by rw [List.length_append, ← HRL.out]; simp; omega, by simp only [ByteArray.size_append, HZQ.out, HZTT.out]; have p2 : (⟨#[32, 10]⟩ : ByteArray).size = 2 := rfl; have p1 : (⟨#[9]⟩ : ByteArray).size = 1 := rfl; omega, HO6, HSM5, HRT5, Lib.hid (HQ6.out _ (by simp only [dat_append]; rfl)), HB6⟩
        case measure => simp [intOf]; omega
    · obtain ⟨hln, B, d, rfl, h1, h2, h3, h4⟩ := own_slice3 HO.out
      have HROW := Lib.hid h1
      have HTR := Lib.hid (toks_textL' R HRT.out)
      have hrl9 : rl ≤ 1000 := by omega
      have hzq99 : zq ≤ 200000 := by omega
      by_cases hq1 : k < n
      · have hki : (k : Int) < (n : Int) := by omega
        have hki2 : ¬ (k : Int) < 100 := by omega
        clear h1 h4 hln hgo hq1
        go_wp2_with fail
        refine (text_laws B rl d R _ HROW.out HRL.out hrl9 HSM.out).mono ?_
        obtain ⟨u, hu⟩ : ∃ u, u = bsOf (textL R) := ⟨_, rfl⟩
        obtain ⟨zu, hzu⟩ : ∃ zu, u.size = zu := ⟨_, rfl⟩
        rw [← hu]
        rintro e w2 ⟨rfl, hb2⟩
        have HB2 := Lib.hid (bthen HBW.out hb2)
        have HR2 := Lib.hid (HROW.out.keep (Nat.le_refl _) hb2)
        have HUD := Lib.hid (show dat u = textL R by rw [hu]; rfl)
        have HZU := Lib.hid (show u.size = zu from hzu)
        have hzu9 : zu ≤ 2000000 := by
          have h := textL_len R HSM.out R.length (Nat.le_refl _)
          rw [List.take_length, ← HRL.out] at h
          have h2 := congrArg List.length HUD.out
          rw [dat_len, HZU.out] at h2
          omega
        have HUS := Lib.hid (show u.size ≤ 9223372036854775807 by rw [HZU.out]; omega)
        have HQS := Lib.hid (show q.size ≤ 9223372036854775807 by rw [HZQ.out]; omega)
        clear hb2 hu
        by_cases hzu4 : zu ≤ 400 <;> by_cases hzq4 : zq ≤ 400
        · have kz : (zu : Int) ≤ 400 := by omega
          have kq : (zq : Int) ≤ 400 := by omega
          have HLU := Lib.hid (show lexT u = some R by unfold lexT; rw [HZU.out, if_neg (by omega), HUD.out]; exact HTR.out)
          have HLQ := Lib.hid (show lexT q = some R by unfold lexT; rw [HZQ.out, if_neg (by omega)]; exact HTQ.out)
          clear hzu4 hzq4
          have HLUS := HUS
          go_wp2_with fail
          refine (tokens_any u _ (HE.out.keep HB2.out) HLUS.out).mono ?_
          rintro e wt1 ⟨h, hb⟩
          have HBt1 := Lib.hid (bthen HB2.out hb)
          have HRt1 := Lib.hid (HR2.out.keep (Nat.le_refl _) hb)
          clear hb
          rcases h with ⟨L1, A1, c1, g1, g2, rfl, g4, g5, g6, g7⟩ | ⟨g1, _⟩
          case inr => rw [HLU.out] at g1; cases g1
          obtain rfl : R = L1 := Option.some.inj (HLU.out.symm.trans g1)
          have HW1 := Lib.hid g4
          rw [← HRL.out]
          clear g1 g2 g4 g5 g6 g7
          go_wp2_with fail
          refine (refsame_any A1 B rl c1 rl d R R _ HW1.out HRt1.out HRL.out HRL.out (by omega) (by omega) true ⟨fun _ => rfl, fun _ => rfl⟩).mono ?_
          rintro e wx1 ⟨rfl, hb⟩
          have HBx1 := Lib.hid (bthen HBt1.out hb)
          have HRx1 := Lib.hid (HRt1.out.keep (Nat.le_refl _) hb)
          clear hb
          have HLQS := HQS
          go_wp2_with fail
          refine (tokens_any q _ (HE.out.keep HBx1.out) HLQS.out).mono ?_
          rintro e wt2 ⟨h, hb⟩
          have HBt2 := Lib.hid (bthen HBx1.out hb)
          have HRt2 := Lib.hid (HRx1.out.keep (Nat.le_refl _) hb)
          clear hb
          rcases h with ⟨L2, A2, c2, g1, g2, rfl, g4, g5, g6, g7⟩ | ⟨g1, _⟩
          case inr => rw [HLQ.out] at g1; cases g1
          obtain rfl : R = L2 := Option.some.inj (HLQ.out.symm.trans g1)
          have HW2 := Lib.hid g4
          rw [← HRL.out]
          clear g1 g2 g4 g5 g6 g7
          go_wp2_with fail
          refine (refsame_any A2 B rl c2 rl d R R _ HW2.out HRt2.out HRL.out HRL.out (by omega) (by omega) true ⟨fun _ => rfl, fun _ => rfl⟩).mono ?_
          rintro e wx2 ⟨rfl, hb⟩
          have HBx2 := Lib.hid (bthen HBt2.out hb)
          have HRx2 := Lib.hid (HRt2.out.keep (Nat.le_refl _) hb)
          clear hb
          by_cases hs5 : 500 < zs
          · have ks : (500 : Int) < (zs : Int) := by omega
            clear hs5
            go_wp2_with fail
            refine (alive_any _ (HE.out.keep HBx2.out)).mono ?_
            rintro e w9 ⟨rfl, hb9⟩
            go_wp2_with fail
            go_ret
            exact ⟨rfl, bthen HBx2.out hb9⟩
          have ks : ¬ (500 : Int) < (zs : Int) := by omega
          clear hs5
          go_wp2_with fail
          refine (tokens_any s _ (HE.out.keep HBx2.out) HSS.out).mono ?_
          rintro e wp ⟨h, hb⟩
          have HBp := Lib.hid (bthen HBx2.out hb)
          clear hb
          rcases h with ⟨P, Ap, cp, g1, g2, rfl, g4, g5, g6, g7⟩ | ⟨g1, rfl⟩
          case inr =>
            clear g1
            go_wp2_with fail
            refine (alive_any _ (HE.out.keep HBp.out)).mono ?_
            rintro e w9 ⟨rfl, hb9⟩
            go_wp2_with fail
            go_ret
            exact ⟨rfl, bthen HBp.out hb9⟩
          case inl =>
          have HTP := Lib.hid (show toks (textL P) = some P ∧ smallT P from by
            have hlx : toks (dat s) = some P := by
              have h := g1; unfold lexT at h; split at h
              · cases h
              · exact h
            have hm := toks_mem _ (dat s) P (Nat.le_refl _) hlx
            have hsz : s.size ≤ 400 := by
              have h := g1; unfold lexT at h; split at h
              · cases h
              · omega
            exact ⟨toks_textL' P (fun t ht => (hm t ht).1), fun t ht => by have h1 := (hm t ht).2; have h2 := size_text t; rw [dat_len] at h1; omega⟩)
          obtain ⟨pl, hpl⟩ : ∃ pl, pl = P.length := ⟨_, rfl⟩
          rw [← hpl] at g2 ⊢
          have HPL := Lib.hid hpl
          have HWP := Lib.hid g4
          obtain ⟨up, hup⟩ : ∃ up, up = bsOf (textL P) := ⟨_, rfl⟩
          obtain ⟨zp, hzp⟩ : ∃ zp, up.size = zp := ⟨_, rfl⟩
          have HUP := Lib.hid hup
          have HZP := Lib.hid (show up.size = zp from hzp)
          have hzp9 : zp ≤ 2000000 := by
            have h := textL_len P HTP.out.2 P.length (Nat.le_refl _)
            rw [List.take_length] at h
            rw [← hzp, hup, size_bs, ← hpl] at *
            omega
          clear g1 g4 g5 g6 g7 hpl hup
          go_wp2_with fail
          refine (text_laws Ap pl cp P _ HWP.out HPL.out (by omega) HTP.out.2).mono ?_
          rw [← HUP.out]
          rintro e wq ⟨rfl, hb⟩
          have HBq := Lib.hid (bthen HBp.out hb)
          have HWQ := Lib.hid (HWP.out.keep (Nat.le_refl _) hb)
          clear hb
          by_cases hz4 : 400 < zp
          · have kp : (400 : Int) < (zp : Int) := by omega
            clear hz4
            go_wp2_with fail
            refine (alive_any _ (HE.out.keep HBq.out)).mono ?_
            rintro e w9 ⟨rfl, hb9⟩
            go_wp2_with fail
            go_ret
            exact ⟨rfl, bthen HBq.out hb9⟩
          have kp : ¬ (400 : Int) < (zp : Int) := by omega
          have HLP := Lib.hid (show lexT up = some P by unfold lexT; rw [HZP.out, if_neg hz4, HUP.out, dat_bs]; exact HTP.out.1)
          have HPS := Lib.hid (show up.size ≤ 9223372036854775807 by rw [HZP.out]; omega)
          clear hz4
          go_wp2_with fail
          refine (text_laws Ap pl cp P _ HWQ.out HPL.out (by omega) HTP.out.2).mono ?_
          rw [← HUP.out]
          rintro e wr2 ⟨rfl, hb⟩
          have HBr := Lib.hid (bthen HBq.out hb)
          have HWR := Lib.hid (HWQ.out.keep (Nat.le_refl _) hb)
          clear hb
          go_wp2_with fail
          refine (tokens_any up _ (HE.out.keep HBr.out) HPS.out).mono ?_
          rintro e ws ⟨h, hb⟩
          have HBs := Lib.hid (bthen HBr.out hb)
          have HWS := Lib.hid (HWR.out.keep (Nat.le_refl _) hb)
          clear hb
          rcases h with ⟨Q9, Aq, cq, g1, g2, rfl, g4, g5, g6, g7⟩ | ⟨g1, _⟩
          case inr => rw [HLP.out] at g1; cases g1
          obtain rfl : P = Q9 := Option.some.inj (HLP.out.symm.trans g1)
          have HWU := Lib.hid g4
          rw [← HPL.out]
          clear g1 g2 g4 g5 g6 g7
          go_wp2_with fail
          refine (alive_any _ (HE.out.keep HBs.out)).mono ?_
          rintro e wv ⟨rfl, hb⟩
          have HBv := Lib.hid (bthen HBs.out hb)
          have HWS2 := Lib.hid (HWS.out.keep (Nat.le_refl _) hb)
          have HWU2 := Lib.hid (HWU.out.keep (Nat.le_refl _) hb)
          clear hb
          go_wp2_with fail
          refine (refsame_any Ap Aq pl cp pl cq P P _ HWS2.out HWU2.out HPL.out HPL.out (by omega) (by omega) true ⟨fun _ => rfl, fun _ => rfl⟩).mono ?_
          rintro e wz ⟨rfl, hb⟩
          go_wp2_with fail
          go_ret
          exact ⟨rfl, bthen HBv.out hb⟩
        · have kz : (zu : Int) ≤ 400 := by omega
          have kq : ¬ (zq : Int) ≤ 400 := by omega
          have HLU := Lib.hid (show lexT u = some R by unfold lexT; rw [HZU.out, if_neg (by omega), HUD.out]; exact HTR.out)
          clear hzu4 hzq4
          have HLUS := HUS
          go_wp2_with fail
          refine (tokens_any u _ (HE.out.keep HB2.out) HLUS.out).mono ?_
          rintro e wt1 ⟨h, hb⟩
          have HBt1 := Lib.hid (bthen HB2.out hb)
          have HRt1 := Lib.hid (HR2.out.keep (Nat.le_refl _) hb)
          clear hb
          rcases h with ⟨L1, A1, c1, g1, g2, rfl, g4, g5, g6, g7⟩ | ⟨g1, _⟩
          case inr => rw [HLU.out] at g1; cases g1
          obtain rfl : R = L1 := Option.some.inj (HLU.out.symm.trans g1)
          have HW1 := Lib.hid g4
          rw [← HRL.out]
          clear g1 g2 g4 g5 g6 g7
          go_wp2_with fail
          refine (refsame_any A1 B rl c1 rl d R R _ HW1.out HRt1.out HRL.out HRL.out (by omega) (by omega) true ⟨fun _ => rfl, fun _ => rfl⟩).mono ?_
          rintro e wx1 ⟨rfl, hb⟩
          have HBx1 := Lib.hid (bthen HBt1.out hb)
          have HRx1 := Lib.hid (HRt1.out.keep (Nat.le_refl _) hb)
          clear hb
          by_cases hs5 : 500 < zs
          · have ks : (500 : Int) < (zs : Int) := by omega
            clear hs5
            go_wp2_with fail
            refine (alive_any _ (HE.out.keep HBx1.out)).mono ?_
            rintro e w9 ⟨rfl, hb9⟩
            go_wp2_with fail
            go_ret
            exact ⟨rfl, bthen HBx1.out hb9⟩
          have ks : ¬ (500 : Int) < (zs : Int) := by omega
          clear hs5
          go_wp2_with fail
          refine (tokens_any s _ (HE.out.keep HBx1.out) HSS.out).mono ?_
          rintro e wp ⟨h, hb⟩
          have HBp := Lib.hid (bthen HBx1.out hb)
          clear hb
          rcases h with ⟨P, Ap, cp, g1, g2, rfl, g4, g5, g6, g7⟩ | ⟨g1, rfl⟩
          case inr =>
            clear g1
            go_wp2_with fail
            refine (alive_any _ (HE.out.keep HBp.out)).mono ?_
            rintro e w9 ⟨rfl, hb9⟩
            go_wp2_with fail
            go_ret
            exact ⟨rfl, bthen HBp.out hb9⟩
          case inl =>
          have HTP := Lib.hid (show toks (textL P) = some P ∧ smallT P from by
            have hlx : toks (dat s) = some P := by
              have h := g1; unfold lexT at h; split at h
              · cases h
              · exact h
            have hm := toks_mem _ (dat s) P (Nat.le_refl _) hlx
            have hsz : s.size ≤ 400 := by
              have h := g1; unfold lexT at h; split at h
              · cases h
              · omega
            exact ⟨toks_textL' P (fun t ht => (hm t ht).1), fun t ht => by have h1 := (hm t ht).2; have h2 := size_text t; rw [dat_len] at h1; omega⟩)
          obtain ⟨pl, hpl⟩ : ∃ pl, pl = P.length := ⟨_, rfl⟩
          rw [← hpl] at g2 ⊢
          have HPL := Lib.hid hpl
          have HWP := Lib.hid g4
          obtain ⟨up, hup⟩ : ∃ up, up = bsOf (textL P) := ⟨_, rfl⟩
          obtain ⟨zp, hzp⟩ : ∃ zp, up.size = zp := ⟨_, rfl⟩
          have HUP := Lib.hid hup
          have HZP := Lib.hid (show up.size = zp from hzp)
          have hzp9 : zp ≤ 2000000 := by
            have h := textL_len P HTP.out.2 P.length (Nat.le_refl _)
            rw [List.take_length] at h
            rw [← hzp, hup, size_bs, ← hpl] at *
            omega
          clear g1 g4 g5 g6 g7 hpl hup
          go_wp2_with fail
          refine (text_laws Ap pl cp P _ HWP.out HPL.out (by omega) HTP.out.2).mono ?_
          rw [← HUP.out]
          rintro e wq ⟨rfl, hb⟩
          have HBq := Lib.hid (bthen HBp.out hb)
          have HWQ := Lib.hid (HWP.out.keep (Nat.le_refl _) hb)
          clear hb
          by_cases hz4 : 400 < zp
          · have kp : (400 : Int) < (zp : Int) := by omega
            clear hz4
            go_wp2_with fail
            refine (alive_any _ (HE.out.keep HBq.out)).mono ?_
            rintro e w9 ⟨rfl, hb9⟩
            go_wp2_with fail
            go_ret
            exact ⟨rfl, bthen HBq.out hb9⟩
          have kp : ¬ (400 : Int) < (zp : Int) := by omega
          have HLP := Lib.hid (show lexT up = some P by unfold lexT; rw [HZP.out, if_neg hz4, HUP.out, dat_bs]; exact HTP.out.1)
          have HPS := Lib.hid (show up.size ≤ 9223372036854775807 by rw [HZP.out]; omega)
          clear hz4
          go_wp2_with fail
          refine (text_laws Ap pl cp P _ HWQ.out HPL.out (by omega) HTP.out.2).mono ?_
          rw [← HUP.out]
          rintro e wr2 ⟨rfl, hb⟩
          have HBr := Lib.hid (bthen HBq.out hb)
          have HWR := Lib.hid (HWQ.out.keep (Nat.le_refl _) hb)
          clear hb
          go_wp2_with fail
          refine (tokens_any up _ (HE.out.keep HBr.out) HPS.out).mono ?_
          rintro e ws ⟨h, hb⟩
          have HBs := Lib.hid (bthen HBr.out hb)
          have HWS := Lib.hid (HWR.out.keep (Nat.le_refl _) hb)
          clear hb
          rcases h with ⟨Q9, Aq, cq, g1, g2, rfl, g4, g5, g6, g7⟩ | ⟨g1, _⟩
          case inr => rw [HLP.out] at g1; cases g1
          obtain rfl : P = Q9 := Option.some.inj (HLP.out.symm.trans g1)
          have HWU := Lib.hid g4
          rw [← HPL.out]
          clear g1 g2 g4 g5 g6 g7
          go_wp2_with fail
          refine (alive_any _ (HE.out.keep HBs.out)).mono ?_
          rintro e wv ⟨rfl, hb⟩
          have HBv := Lib.hid (bthen HBs.out hb)
          have HWS2 := Lib.hid (HWS.out.keep (Nat.le_refl _) hb)
          have HWU2 := Lib.hid (HWU.out.keep (Nat.le_refl _) hb)
          clear hb
          go_wp2_with fail
          refine (refsame_any Ap Aq pl cp pl cq P P _ HWS2.out HWU2.out HPL.out HPL.out (by omega) (by omega) true ⟨fun _ => rfl, fun _ => rfl⟩).mono ?_
          rintro e wz ⟨rfl, hb⟩
          go_wp2_with fail
          go_ret
          exact ⟨rfl, bthen HBv.out hb⟩
        · have kz : ¬ (zu : Int) ≤ 400 := by omega
          have kq : (zq : Int) ≤ 400 := by omega
          have HLQ := Lib.hid (show lexT q = some R by unfold lexT; rw [HZQ.out, if_neg (by omega)]; exact HTQ.out)
          clear hzu4 hzq4
          have HLQS := HQS
          go_wp2_with fail
          refine (tokens_any q _ (HE.out.keep HB2.out) HLQS.out).mono ?_
          rintro e wt2 ⟨h, hb⟩
          have HBt2 := Lib.hid (bthen HB2.out hb)
          have HRt2 := Lib.hid (HR2.out.keep (Nat.le_refl _) hb)
          clear hb
          rcases h with ⟨L2, A2, c2, g1, g2, rfl, g4, g5, g6, g7⟩ | ⟨g1, _⟩
          case inr => rw [HLQ.out] at g1; cases g1
          obtain rfl : R = L2 := Option.some.inj (HLQ.out.symm.trans g1)
          have HW2 := Lib.hid g4
          rw [← HRL.out]
          clear g1 g2 g4 g5 g6 g7
          go_wp2_with fail
          refine (refsame_any A2 B rl c2 rl d R R _ HW2.out HRt2.out HRL.out HRL.out (by omega) (by omega) true ⟨fun _ => rfl, fun _ => rfl⟩).mono ?_
          rintro e wx2 ⟨rfl, hb⟩
          have HBx2 := Lib.hid (bthen HBt2.out hb)
          have HRx2 := Lib.hid (HRt2.out.keep (Nat.le_refl _) hb)
          clear hb
          by_cases hs5 : 500 < zs
          · have ks : (500 : Int) < (zs : Int) := by omega
            clear hs5
            go_wp2_with fail
            refine (alive_any _ (HE.out.keep HBx2.out)).mono ?_
            rintro e w9 ⟨rfl, hb9⟩
            go_wp2_with fail
            go_ret
            exact ⟨rfl, bthen HBx2.out hb9⟩
          have ks : ¬ (500 : Int) < (zs : Int) := by omega
          clear hs5
          go_wp2_with fail
          refine (tokens_any s _ (HE.out.keep HBx2.out) HSS.out).mono ?_
          rintro e wp ⟨h, hb⟩
          have HBp := Lib.hid (bthen HBx2.out hb)
          clear hb
          rcases h with ⟨P, Ap, cp, g1, g2, rfl, g4, g5, g6, g7⟩ | ⟨g1, rfl⟩
          case inr =>
            clear g1
            go_wp2_with fail
            refine (alive_any _ (HE.out.keep HBp.out)).mono ?_
            rintro e w9 ⟨rfl, hb9⟩
            go_wp2_with fail
            go_ret
            exact ⟨rfl, bthen HBp.out hb9⟩
          case inl =>
          have HTP := Lib.hid (show toks (textL P) = some P ∧ smallT P from by
            have hlx : toks (dat s) = some P := by
              have h := g1; unfold lexT at h; split at h
              · cases h
              · exact h
            have hm := toks_mem _ (dat s) P (Nat.le_refl _) hlx
            have hsz : s.size ≤ 400 := by
              have h := g1; unfold lexT at h; split at h
              · cases h
              · omega
            exact ⟨toks_textL' P (fun t ht => (hm t ht).1), fun t ht => by have h1 := (hm t ht).2; have h2 := size_text t; rw [dat_len] at h1; omega⟩)
          obtain ⟨pl, hpl⟩ : ∃ pl, pl = P.length := ⟨_, rfl⟩
          rw [← hpl] at g2 ⊢
          have HPL := Lib.hid hpl
          have HWP := Lib.hid g4
          obtain ⟨up, hup⟩ : ∃ up, up = bsOf (textL P) := ⟨_, rfl⟩
          obtain ⟨zp, hzp⟩ : ∃ zp, up.size = zp := ⟨_, rfl⟩
          have HUP := Lib.hid hup
          have HZP := Lib.hid (show up.size = zp from hzp)
          have hzp9 : zp ≤ 2000000 := by
            have h := textL_len P HTP.out.2 P.length (Nat.le_refl _)
            rw [List.take_length] at h
            rw [← hzp, hup, size_bs, ← hpl] at *
            omega
          clear g1 g4 g5 g6 g7 hpl hup
          go_wp2_with fail
          refine (text_laws Ap pl cp P _ HWP.out HPL.out (by omega) HTP.out.2).mono ?_
          rw [← HUP.out]
          rintro e wq ⟨rfl, hb⟩
          have HBq := Lib.hid (bthen HBp.out hb)
          have HWQ := Lib.hid (HWP.out.keep (Nat.le_refl _) hb)
          clear hb
          by_cases hz4 : 400 < zp
          · have kp : (400 : Int) < (zp : Int) := by omega
            clear hz4
            go_wp2_with fail
            refine (alive_any _ (HE.out.keep HBq.out)).mono ?_
            rintro e w9 ⟨rfl, hb9⟩
            go_wp2_with fail
            go_ret
            exact ⟨rfl, bthen HBq.out hb9⟩
          have kp : ¬ (400 : Int) < (zp : Int) := by omega
          have HLP := Lib.hid (show lexT up = some P by unfold lexT; rw [HZP.out, if_neg hz4, HUP.out, dat_bs]; exact HTP.out.1)
          have HPS := Lib.hid (show up.size ≤ 9223372036854775807 by rw [HZP.out]; omega)
          clear hz4
          go_wp2_with fail
          refine (text_laws Ap pl cp P _ HWQ.out HPL.out (by omega) HTP.out.2).mono ?_
          rw [← HUP.out]
          rintro e wr2 ⟨rfl, hb⟩
          have HBr := Lib.hid (bthen HBq.out hb)
          have HWR := Lib.hid (HWQ.out.keep (Nat.le_refl _) hb)
          clear hb
          go_wp2_with fail
          refine (tokens_any up _ (HE.out.keep HBr.out) HPS.out).mono ?_
          rintro e ws ⟨h, hb⟩
          have HBs := Lib.hid (bthen HBr.out hb)
          have HWS := Lib.hid (HWR.out.keep (Nat.le_refl _) hb)
          clear hb
          rcases h with ⟨Q9, Aq, cq, g1, g2, rfl, g4, g5, g6, g7⟩ | ⟨g1, _⟩
          case inr => rw [HLP.out] at g1; cases g1
          obtain rfl : P = Q9 := Option.some.inj (HLP.out.symm.trans g1)
          have HWU := Lib.hid g4
          rw [← HPL.out]
          clear g1 g2 g4 g5 g6 g7
          go_wp2_with fail
          refine (alive_any _ (HE.out.keep HBs.out)).mono ?_
          rintro e wv ⟨rfl, hb⟩
          have HBv := Lib.hid (bthen HBs.out hb)
          have HWS2 := Lib.hid (HWS.out.keep (Nat.le_refl _) hb)
          have HWU2 := Lib.hid (HWU.out.keep (Nat.le_refl _) hb)
          clear hb
          go_wp2_with fail
          refine (refsame_any Ap Aq pl cp pl cq P P _ HWS2.out HWU2.out HPL.out HPL.out (by omega) (by omega) true ⟨fun _ => rfl, fun _ => rfl⟩).mono ?_
          rintro e wz ⟨rfl, hb⟩
          go_wp2_with fail
          go_ret
          exact ⟨rfl, bthen HBv.out hb⟩
        · have kz : ¬ (zu : Int) ≤ 400 := by omega
          have kq : ¬ (zq : Int) ≤ 400 := by omega
          clear hzu4 hzq4
          by_cases hs5 : 500 < zs
          · have ks : (500 : Int) < (zs : Int) := by omega
            clear hs5
            go_wp2_with fail
            refine (alive_any _ (HE.out.keep HB2.out)).mono ?_
            rintro e w9 ⟨rfl, hb9⟩
            go_wp2_with fail
            go_ret
            exact ⟨rfl, bthen HB2.out hb9⟩
          have ks : ¬ (500 : Int) < (zs : Int) := by omega
          clear hs5
          go_wp2_with fail
          refine (tokens_any s _ (HE.out.keep HB2.out) HSS.out).mono ?_
          rintro e wp ⟨h, hb⟩
          have HBp := Lib.hid (bthen HB2.out hb)
          clear hb
          rcases h with ⟨P, Ap, cp, g1, g2, rfl, g4, g5, g6, g7⟩ | ⟨g1, rfl⟩
          case inr =>
            clear g1
            go_wp2_with fail
            refine (alive_any _ (HE.out.keep HBp.out)).mono ?_
            rintro e w9 ⟨rfl, hb9⟩
            go_wp2_with fail
            go_ret
            exact ⟨rfl, bthen HBp.out hb9⟩
          case inl =>
          have HTP := Lib.hid (show toks (textL P) = some P ∧ smallT P from by
            have hlx : toks (dat s) = some P := by
              have h := g1; unfold lexT at h; split at h
              · cases h
              · exact h
            have hm := toks_mem _ (dat s) P (Nat.le_refl _) hlx
            have hsz : s.size ≤ 400 := by
              have h := g1; unfold lexT at h; split at h
              · cases h
              · omega
            exact ⟨toks_textL' P (fun t ht => (hm t ht).1), fun t ht => by have h1 := (hm t ht).2; have h2 := size_text t; rw [dat_len] at h1; omega⟩)
          obtain ⟨pl, hpl⟩ : ∃ pl, pl = P.length := ⟨_, rfl⟩
          rw [← hpl] at g2 ⊢
          have HPL := Lib.hid hpl
          have HWP := Lib.hid g4
          obtain ⟨up, hup⟩ : ∃ up, up = bsOf (textL P) := ⟨_, rfl⟩
          obtain ⟨zp, hzp⟩ : ∃ zp, up.size = zp := ⟨_, rfl⟩
          have HUP := Lib.hid hup
          have HZP := Lib.hid (show up.size = zp from hzp)
          have hzp9 : zp ≤ 2000000 := by
            have h := textL_len P HTP.out.2 P.length (Nat.le_refl _)
            rw [List.take_length] at h
            rw [← hzp, hup, size_bs, ← hpl] at *
            omega
          clear g1 g4 g5 g6 g7 hpl hup
          go_wp2_with fail
          refine (text_laws Ap pl cp P _ HWP.out HPL.out (by omega) HTP.out.2).mono ?_
          rw [← HUP.out]
          rintro e wq ⟨rfl, hb⟩
          have HBq := Lib.hid (bthen HBp.out hb)
          have HWQ := Lib.hid (HWP.out.keep (Nat.le_refl _) hb)
          clear hb
          by_cases hz4 : 400 < zp
          · have kp : (400 : Int) < (zp : Int) := by omega
            clear hz4
            go_wp2_with fail
            refine (alive_any _ (HE.out.keep HBq.out)).mono ?_
            rintro e w9 ⟨rfl, hb9⟩
            go_wp2_with fail
            go_ret
            exact ⟨rfl, bthen HBq.out hb9⟩
          have kp : ¬ (400 : Int) < (zp : Int) := by omega
          have HLP := Lib.hid (show lexT up = some P by unfold lexT; rw [HZP.out, if_neg hz4, HUP.out, dat_bs]; exact HTP.out.1)
          have HPS := Lib.hid (show up.size ≤ 9223372036854775807 by rw [HZP.out]; omega)
          clear hz4
          go_wp2_with fail
          refine (text_laws Ap pl cp P _ HWQ.out HPL.out (by omega) HTP.out.2).mono ?_
          rw [← HUP.out]
          rintro e wr2 ⟨rfl, hb⟩
          have HBr := Lib.hid (bthen HBq.out hb)
          have HWR := Lib.hid (HWQ.out.keep (Nat.le_refl _) hb)
          clear hb
          go_wp2_with fail
          refine (tokens_any up _ (HE.out.keep HBr.out) HPS.out).mono ?_
          rintro e ws ⟨h, hb⟩
          have HBs := Lib.hid (bthen HBr.out hb)
          have HWS := Lib.hid (HWR.out.keep (Nat.le_refl _) hb)
          clear hb
          rcases h with ⟨Q9, Aq, cq, g1, g2, rfl, g4, g5, g6, g7⟩ | ⟨g1, _⟩
          case inr => rw [HLP.out] at g1; cases g1
          obtain rfl : P = Q9 := Option.some.inj (HLP.out.symm.trans g1)
          have HWU := Lib.hid g4
          rw [← HPL.out]
          clear g1 g2 g4 g5 g6 g7
          go_wp2_with fail
          refine (alive_any _ (HE.out.keep HBs.out)).mono ?_
          rintro e wv ⟨rfl, hb⟩
          have HBv := Lib.hid (bthen HBs.out hb)
          have HWS2 := Lib.hid (HWS.out.keep (Nat.le_refl _) hb)
          have HWU2 := Lib.hid (HWU.out.keep (Nat.le_refl _) hb)
          clear hb
          go_wp2_with fail
          refine (refsame_any Ap Aq pl cp pl cq P P _ HWS2.out HWU2.out HPL.out HPL.out (by omega) (by omega) true ⟨fun _ => rfl, fun _ => rfl⟩).mono ?_
          rintro e wz ⟨rfl, hb⟩
          go_wp2_with fail
          go_ret
          exact ⟨rfl, bthen HBv.out hb⟩
      · have hki : ¬ (k : Int) < (n : Int) := by omega
        clear h1 h4 hln hgo hq1
        go_wp2_with fail
        refine (text_laws B rl d R _ HROW.out HRL.out hrl9 HSM.out).mono ?_
        obtain ⟨u, hu⟩ : ∃ u, u = bsOf (textL R) := ⟨_, rfl⟩
        obtain ⟨zu, hzu⟩ : ∃ zu, u.size = zu := ⟨_, rfl⟩
        rw [← hu]
        rintro e w2 ⟨rfl, hb2⟩
        have HB2 := Lib.hid (bthen HBW.out hb2)
        have HR2 := Lib.hid (HROW.out.keep (Nat.le_refl _) hb2)
        have HUD := Lib.hid (show dat u = textL R by rw [hu]; rfl)
        have HZU := Lib.hid (show u.size = zu from hzu)
        have hzu9 : zu ≤ 2000000 := by
          have h := textL_len R HSM.out R.length (Nat.le_refl _)
          rw [List.take_length, ← HRL.out] at h
          have h2 := congrArg List.length HUD.out
          rw [dat_len, HZU.out] at h2
          omega
        have HUS := Lib.hid (show u.size ≤ 9223372036854775807 by rw [HZU.out]; omega)
        have HQS := Lib.hid (show q.size ≤ 9223372036854775807 by rw [HZQ.out]; omega)
        clear hb2 hu
        by_cases hzu4 : zu ≤ 400 <;> by_cases hzq4 : zq ≤ 400
        · have kz : (zu : Int) ≤ 400 := by omega
          have kq : (zq : Int) ≤ 400 := by omega
          have HLU := Lib.hid (show lexT u = some R by unfold lexT; rw [HZU.out, if_neg (by omega), HUD.out]; exact HTR.out)
          have HLQ := Lib.hid (show lexT q = some R by unfold lexT; rw [HZQ.out, if_neg (by omega)]; exact HTQ.out)
          clear hzu4 hzq4
          have HLUS := HUS
          go_wp2_with fail
          refine (tokens_any u _ (HE.out.keep HB2.out) HLUS.out).mono ?_
          rintro e wt1 ⟨h, hb⟩
          have HBt1 := Lib.hid (bthen HB2.out hb)
          have HRt1 := Lib.hid (HR2.out.keep (Nat.le_refl _) hb)
          clear hb
          rcases h with ⟨L1, A1, c1, g1, g2, rfl, g4, g5, g6, g7⟩ | ⟨g1, _⟩
          case inr => rw [HLU.out] at g1; cases g1
          obtain rfl : R = L1 := Option.some.inj (HLU.out.symm.trans g1)
          have HW1 := Lib.hid g4
          rw [← HRL.out]
          clear g1 g2 g4 g5 g6 g7
          go_wp2_with fail
          refine (refsame_any A1 B rl c1 rl d R R _ HW1.out HRt1.out HRL.out HRL.out (by omega) (by omega) true ⟨fun _ => rfl, fun _ => rfl⟩).mono ?_
          rintro e wx1 ⟨rfl, hb⟩
          have HBx1 := Lib.hid (bthen HBt1.out hb)
          have HRx1 := Lib.hid (HRt1.out.keep (Nat.le_refl _) hb)
          clear hb
          have HLQS := HQS
          go_wp2_with fail
          refine (tokens_any q _ (HE.out.keep HBx1.out) HLQS.out).mono ?_
          rintro e wt2 ⟨h, hb⟩
          have HBt2 := Lib.hid (bthen HBx1.out hb)
          have HRt2 := Lib.hid (HRx1.out.keep (Nat.le_refl _) hb)
          clear hb
          rcases h with ⟨L2, A2, c2, g1, g2, rfl, g4, g5, g6, g7⟩ | ⟨g1, _⟩
          case inr => rw [HLQ.out] at g1; cases g1
          obtain rfl : R = L2 := Option.some.inj (HLQ.out.symm.trans g1)
          have HW2 := Lib.hid g4
          rw [← HRL.out]
          clear g1 g2 g4 g5 g6 g7
          go_wp2_with fail
          refine (refsame_any A2 B rl c2 rl d R R _ HW2.out HRt2.out HRL.out HRL.out (by omega) (by omega) true ⟨fun _ => rfl, fun _ => rfl⟩).mono ?_
          rintro e wx2 ⟨rfl, hb⟩
          have HBx2 := Lib.hid (bthen HBt2.out hb)
          have HRx2 := Lib.hid (HRt2.out.keep (Nat.le_refl _) hb)
          clear hb
          by_cases hs5 : 500 < zs
          · have ks : (500 : Int) < (zs : Int) := by omega
            clear hs5
            go_wp2_with fail
            refine (alive_any _ (HE.out.keep HBx2.out)).mono ?_
            rintro e w9 ⟨rfl, hb9⟩
            go_wp2_with fail
            go_ret
            exact ⟨rfl, bthen HBx2.out hb9⟩
          have ks : ¬ (500 : Int) < (zs : Int) := by omega
          clear hs5
          go_wp2_with fail
          refine (tokens_any s _ (HE.out.keep HBx2.out) HSS.out).mono ?_
          rintro e wp ⟨h, hb⟩
          have HBp := Lib.hid (bthen HBx2.out hb)
          clear hb
          rcases h with ⟨P, Ap, cp, g1, g2, rfl, g4, g5, g6, g7⟩ | ⟨g1, rfl⟩
          case inr =>
            clear g1
            go_wp2_with fail
            refine (alive_any _ (HE.out.keep HBp.out)).mono ?_
            rintro e w9 ⟨rfl, hb9⟩
            go_wp2_with fail
            go_ret
            exact ⟨rfl, bthen HBp.out hb9⟩
          case inl =>
          have HTP := Lib.hid (show toks (textL P) = some P ∧ smallT P from by
            have hlx : toks (dat s) = some P := by
              have h := g1; unfold lexT at h; split at h
              · cases h
              · exact h
            have hm := toks_mem _ (dat s) P (Nat.le_refl _) hlx
            have hsz : s.size ≤ 400 := by
              have h := g1; unfold lexT at h; split at h
              · cases h
              · omega
            exact ⟨toks_textL' P (fun t ht => (hm t ht).1), fun t ht => by have h1 := (hm t ht).2; have h2 := size_text t; rw [dat_len] at h1; omega⟩)
          obtain ⟨pl, hpl⟩ : ∃ pl, pl = P.length := ⟨_, rfl⟩
          rw [← hpl] at g2 ⊢
          have HPL := Lib.hid hpl
          have HWP := Lib.hid g4
          obtain ⟨up, hup⟩ : ∃ up, up = bsOf (textL P) := ⟨_, rfl⟩
          obtain ⟨zp, hzp⟩ : ∃ zp, up.size = zp := ⟨_, rfl⟩
          have HUP := Lib.hid hup
          have HZP := Lib.hid (show up.size = zp from hzp)
          have hzp9 : zp ≤ 2000000 := by
            have h := textL_len P HTP.out.2 P.length (Nat.le_refl _)
            rw [List.take_length] at h
            rw [← hzp, hup, size_bs, ← hpl] at *
            omega
          clear g1 g4 g5 g6 g7 hpl hup
          go_wp2_with fail
          refine (text_laws Ap pl cp P _ HWP.out HPL.out (by omega) HTP.out.2).mono ?_
          rw [← HUP.out]
          rintro e wq ⟨rfl, hb⟩
          have HBq := Lib.hid (bthen HBp.out hb)
          have HWQ := Lib.hid (HWP.out.keep (Nat.le_refl _) hb)
          clear hb
          by_cases hz4 : 400 < zp
          · have kp : (400 : Int) < (zp : Int) := by omega
            clear hz4
            go_wp2_with fail
            refine (alive_any _ (HE.out.keep HBq.out)).mono ?_
            rintro e w9 ⟨rfl, hb9⟩
            go_wp2_with fail
            go_ret
            exact ⟨rfl, bthen HBq.out hb9⟩
          have kp : ¬ (400 : Int) < (zp : Int) := by omega
          have HLP := Lib.hid (show lexT up = some P by unfold lexT; rw [HZP.out, if_neg hz4, HUP.out, dat_bs]; exact HTP.out.1)
          have HPS := Lib.hid (show up.size ≤ 9223372036854775807 by rw [HZP.out]; omega)
          clear hz4
          go_wp2_with fail
          refine (text_laws Ap pl cp P _ HWQ.out HPL.out (by omega) HTP.out.2).mono ?_
          rw [← HUP.out]
          rintro e wr2 ⟨rfl, hb⟩
          have HBr := Lib.hid (bthen HBq.out hb)
          have HWR := Lib.hid (HWQ.out.keep (Nat.le_refl _) hb)
          clear hb
          go_wp2_with fail
          refine (tokens_any up _ (HE.out.keep HBr.out) HPS.out).mono ?_
          rintro e ws ⟨h, hb⟩
          have HBs := Lib.hid (bthen HBr.out hb)
          have HWS := Lib.hid (HWR.out.keep (Nat.le_refl _) hb)
          clear hb
          rcases h with ⟨Q9, Aq, cq, g1, g2, rfl, g4, g5, g6, g7⟩ | ⟨g1, _⟩
          case inr => rw [HLP.out] at g1; cases g1
          obtain rfl : P = Q9 := Option.some.inj (HLP.out.symm.trans g1)
          have HWU := Lib.hid g4
          rw [← HPL.out]
          clear g1 g2 g4 g5 g6 g7
          go_wp2_with fail
          refine (alive_any _ (HE.out.keep HBs.out)).mono ?_
          rintro e wv ⟨rfl, hb⟩
          have HBv := Lib.hid (bthen HBs.out hb)
          have HWS2 := Lib.hid (HWS.out.keep (Nat.le_refl _) hb)
          have HWU2 := Lib.hid (HWU.out.keep (Nat.le_refl _) hb)
          clear hb
          go_wp2_with fail
          refine (refsame_any Ap Aq pl cp pl cq P P _ HWS2.out HWU2.out HPL.out HPL.out (by omega) (by omega) true ⟨fun _ => rfl, fun _ => rfl⟩).mono ?_
          rintro e wz ⟨rfl, hb⟩
          go_wp2_with fail
          go_ret
          exact ⟨rfl, bthen HBv.out hb⟩
        · have kz : (zu : Int) ≤ 400 := by omega
          have kq : ¬ (zq : Int) ≤ 400 := by omega
          have HLU := Lib.hid (show lexT u = some R by unfold lexT; rw [HZU.out, if_neg (by omega), HUD.out]; exact HTR.out)
          clear hzu4 hzq4
          have HLUS := HUS
          go_wp2_with fail
          refine (tokens_any u _ (HE.out.keep HB2.out) HLUS.out).mono ?_
          rintro e wt1 ⟨h, hb⟩
          have HBt1 := Lib.hid (bthen HB2.out hb)
          have HRt1 := Lib.hid (HR2.out.keep (Nat.le_refl _) hb)
          clear hb
          rcases h with ⟨L1, A1, c1, g1, g2, rfl, g4, g5, g6, g7⟩ | ⟨g1, _⟩
          case inr => rw [HLU.out] at g1; cases g1
          obtain rfl : R = L1 := Option.some.inj (HLU.out.symm.trans g1)
          have HW1 := Lib.hid g4
          rw [← HRL.out]
          clear g1 g2 g4 g5 g6 g7
          go_wp2_with fail
          refine (refsame_any A1 B rl c1 rl d R R _ HW1.out HRt1.out HRL.out HRL.out (by omega) (by omega) true ⟨fun _ => rfl, fun _ => rfl⟩).mono ?_
          rintro e wx1 ⟨rfl, hb⟩
          have HBx1 := Lib.hid (bthen HBt1.out hb)
          have HRx1 := Lib.hid (HRt1.out.keep (Nat.le_refl _) hb)
          clear hb
          by_cases hs5 : 500 < zs
          · have ks : (500 : Int) < (zs : Int) := by omega
            clear hs5
            go_wp2_with fail
            refine (alive_any _ (HE.out.keep HBx1.out)).mono ?_
            rintro e w9 ⟨rfl, hb9⟩
            go_wp2_with fail
            go_ret
            exact ⟨rfl, bthen HBx1.out hb9⟩
          have ks : ¬ (500 : Int) < (zs : Int) := by omega
          clear hs5
          go_wp2_with fail
          refine (tokens_any s _ (HE.out.keep HBx1.out) HSS.out).mono ?_
          rintro e wp ⟨h, hb⟩
          have HBp := Lib.hid (bthen HBx1.out hb)
          clear hb
          rcases h with ⟨P, Ap, cp, g1, g2, rfl, g4, g5, g6, g7⟩ | ⟨g1, rfl⟩
          case inr =>
            clear g1
            go_wp2_with fail
            refine (alive_any _ (HE.out.keep HBp.out)).mono ?_
            rintro e w9 ⟨rfl, hb9⟩
            go_wp2_with fail
            go_ret
            exact ⟨rfl, bthen HBp.out hb9⟩
          case inl =>
          have HTP := Lib.hid (show toks (textL P) = some P ∧ smallT P from by
            have hlx : toks (dat s) = some P := by
              have h := g1; unfold lexT at h; split at h
              · cases h
              · exact h
            have hm := toks_mem _ (dat s) P (Nat.le_refl _) hlx
            have hsz : s.size ≤ 400 := by
              have h := g1; unfold lexT at h; split at h
              · cases h
              · omega
            exact ⟨toks_textL' P (fun t ht => (hm t ht).1), fun t ht => by have h1 := (hm t ht).2; have h2 := size_text t; rw [dat_len] at h1; omega⟩)
          obtain ⟨pl, hpl⟩ : ∃ pl, pl = P.length := ⟨_, rfl⟩
          rw [← hpl] at g2 ⊢
          have HPL := Lib.hid hpl
          have HWP := Lib.hid g4
          obtain ⟨up, hup⟩ : ∃ up, up = bsOf (textL P) := ⟨_, rfl⟩
          obtain ⟨zp, hzp⟩ : ∃ zp, up.size = zp := ⟨_, rfl⟩
          have HUP := Lib.hid hup
          have HZP := Lib.hid (show up.size = zp from hzp)
          have hzp9 : zp ≤ 2000000 := by
            have h := textL_len P HTP.out.2 P.length (Nat.le_refl _)
            rw [List.take_length] at h
            rw [← hzp, hup, size_bs, ← hpl] at *
            omega
          clear g1 g4 g5 g6 g7 hpl hup
          go_wp2_with fail
          refine (text_laws Ap pl cp P _ HWP.out HPL.out (by omega) HTP.out.2).mono ?_
          rw [← HUP.out]
          rintro e wq ⟨rfl, hb⟩
          have HBq := Lib.hid (bthen HBp.out hb)
          have HWQ := Lib.hid (HWP.out.keep (Nat.le_refl _) hb)
          clear hb
          by_cases hz4 : 400 < zp
          · have kp : (400 : Int) < (zp : Int) := by omega
            clear hz4
            go_wp2_with fail
            refine (alive_any _ (HE.out.keep HBq.out)).mono ?_
            rintro e w9 ⟨rfl, hb9⟩
            go_wp2_with fail
            go_ret
            exact ⟨rfl, bthen HBq.out hb9⟩
          have kp : ¬ (400 : Int) < (zp : Int) := by omega
          have HLP := Lib.hid (show lexT up = some P by unfold lexT; rw [HZP.out, if_neg hz4, HUP.out, dat_bs]; exact HTP.out.1)
          have HPS := Lib.hid (show up.size ≤ 9223372036854775807 by rw [HZP.out]; omega)
          clear hz4
          go_wp2_with fail
          refine (text_laws Ap pl cp P _ HWQ.out HPL.out (by omega) HTP.out.2).mono ?_
          rw [← HUP.out]
          rintro e wr2 ⟨rfl, hb⟩
          have HBr := Lib.hid (bthen HBq.out hb)
          have HWR := Lib.hid (HWQ.out.keep (Nat.le_refl _) hb)
          clear hb
          go_wp2_with fail
          refine (tokens_any up _ (HE.out.keep HBr.out) HPS.out).mono ?_
          rintro e ws ⟨h, hb⟩
          have HBs := Lib.hid (bthen HBr.out hb)
          have HWS := Lib.hid (HWR.out.keep (Nat.le_refl _) hb)
          clear hb
          rcases h with ⟨Q9, Aq, cq, g1, g2, rfl, g4, g5, g6, g7⟩ | ⟨g1, _⟩
          case inr => rw [HLP.out] at g1; cases g1
          obtain rfl : P = Q9 := Option.some.inj (HLP.out.symm.trans g1)
          have HWU := Lib.hid g4
          rw [← HPL.out]
          clear g1 g2 g4 g5 g6 g7
          go_wp2_with fail
          refine (alive_any _ (HE.out.keep HBs.out)).mono ?_
          rintro e wv ⟨rfl, hb⟩
          have HBv := Lib.hid (bthen HBs.out hb)
          have HWS2 := Lib.hid (HWS.out.keep (Nat.le_refl _) hb)
          have HWU2 := Lib.hid (HWU.out.keep (Nat.le_refl _) hb)
          clear hb
          go_wp2_with fail
          refine (refsame_any Ap Aq pl cp pl cq P P _ HWS2.out HWU2.out HPL.out HPL.out (by omega) (by omega) true ⟨fun _ => rfl, fun _ => rfl⟩).mono ?_
          rintro e wz ⟨rfl, hb⟩
          go_wp2_with fail
          go_ret
          exact ⟨rfl, bthen HBv.out hb⟩
        · have kz : ¬ (zu : Int) ≤ 400 := by omega
          have kq : (zq : Int) ≤ 400 := by omega
          have HLQ := Lib.hid (show lexT q = some R by unfold lexT; rw [HZQ.out, if_neg (by omega)]; exact HTQ.out)
          clear hzu4 hzq4
          have HLQS := HQS
          go_wp2_with fail
          refine (tokens_any q _ (HE.out.keep HB2.out) HLQS.out).mono ?_
          rintro e wt2 ⟨h, hb⟩
          have HBt2 := Lib.hid (bthen HB2.out hb)
          have HRt2 := Lib.hid (HR2.out.keep (Nat.le_refl _) hb)
          clear hb
          rcases h with ⟨L2, A2, c2, g1, g2, rfl, g4, g5, g6, g7⟩ | ⟨g1, _⟩
          case inr => rw [HLQ.out] at g1; cases g1
          obtain rfl : R = L2 := Option.some.inj (HLQ.out.symm.trans g1)
          have HW2 := Lib.hid g4
          rw [← HRL.out]
          clear g1 g2 g4 g5 g6 g7
          go_wp2_with fail
          refine (refsame_any A2 B rl c2 rl d R R _ HW2.out HRt2.out HRL.out HRL.out (by omega) (by omega) true ⟨fun _ => rfl, fun _ => rfl⟩).mono ?_
          rintro e wx2 ⟨rfl, hb⟩
          have HBx2 := Lib.hid (bthen HBt2.out hb)
          have HRx2 := Lib.hid (HRt2.out.keep (Nat.le_refl _) hb)
          clear hb
          by_cases hs5 : 500 < zs
          · have ks : (500 : Int) < (zs : Int) := by omega
            clear hs5
            go_wp2_with fail
            refine (alive_any _ (HE.out.keep HBx2.out)).mono ?_
            rintro e w9 ⟨rfl, hb9⟩
            go_wp2_with fail
            go_ret
            exact ⟨rfl, bthen HBx2.out hb9⟩
          have ks : ¬ (500 : Int) < (zs : Int) := by omega
          clear hs5
          go_wp2_with fail
          refine (tokens_any s _ (HE.out.keep HBx2.out) HSS.out).mono ?_
          rintro e wp ⟨h, hb⟩
          have HBp := Lib.hid (bthen HBx2.out hb)
          clear hb
          rcases h with ⟨P, Ap, cp, g1, g2, rfl, g4, g5, g6, g7⟩ | ⟨g1, rfl⟩
          case inr =>
            clear g1
            go_wp2_with fail
            refine (alive_any _ (HE.out.keep HBp.out)).mono ?_
            rintro e w9 ⟨rfl, hb9⟩
            go_wp2_with fail
            go_ret
            exact ⟨rfl, bthen HBp.out hb9⟩
          case inl =>
          have HTP := Lib.hid (show toks (textL P) = some P ∧ smallT P from by
            have hlx : toks (dat s) = some P := by
              have h := g1; unfold lexT at h; split at h
              · cases h
              · exact h
            have hm := toks_mem _ (dat s) P (Nat.le_refl _) hlx
            have hsz : s.size ≤ 400 := by
              have h := g1; unfold lexT at h; split at h
              · cases h
              · omega
            exact ⟨toks_textL' P (fun t ht => (hm t ht).1), fun t ht => by have h1 := (hm t ht).2; have h2 := size_text t; rw [dat_len] at h1; omega⟩)
          obtain ⟨pl, hpl⟩ : ∃ pl, pl = P.length := ⟨_, rfl⟩
          rw [← hpl] at g2 ⊢
          have HPL := Lib.hid hpl
          have HWP := Lib.hid g4
          obtain ⟨up, hup⟩ : ∃ up, up = bsOf (textL P) := ⟨_, rfl⟩
          obtain ⟨zp, hzp⟩ : ∃ zp, up.size = zp := ⟨_, rfl⟩
          have HUP := Lib.hid hup
          have HZP := Lib.hid (show up.size = zp from hzp)
          have hzp9 : zp ≤ 2000000 := by
            have h := textL_len P HTP.out.2 P.length (Nat.le_refl _)
            rw [List.take_length] at h
            rw [← hzp, hup, size_bs, ← hpl] at *
            omega
          clear g1 g4 g5 g6 g7 hpl hup
          go_wp2_with fail
          refine (text_laws Ap pl cp P _ HWP.out HPL.out (by omega) HTP.out.2).mono ?_
          rw [← HUP.out]
          rintro e wq ⟨rfl, hb⟩
          have HBq := Lib.hid (bthen HBp.out hb)
          have HWQ := Lib.hid (HWP.out.keep (Nat.le_refl _) hb)
          clear hb
          by_cases hz4 : 400 < zp
          · have kp : (400 : Int) < (zp : Int) := by omega
            clear hz4
            go_wp2_with fail
            refine (alive_any _ (HE.out.keep HBq.out)).mono ?_
            rintro e w9 ⟨rfl, hb9⟩
            go_wp2_with fail
            go_ret
            exact ⟨rfl, bthen HBq.out hb9⟩
          have kp : ¬ (400 : Int) < (zp : Int) := by omega
          have HLP := Lib.hid (show lexT up = some P by unfold lexT; rw [HZP.out, if_neg hz4, HUP.out, dat_bs]; exact HTP.out.1)
          have HPS := Lib.hid (show up.size ≤ 9223372036854775807 by rw [HZP.out]; omega)
          clear hz4
          go_wp2_with fail
          refine (text_laws Ap pl cp P _ HWQ.out HPL.out (by omega) HTP.out.2).mono ?_
          rw [← HUP.out]
          rintro e wr2 ⟨rfl, hb⟩
          have HBr := Lib.hid (bthen HBq.out hb)
          have HWR := Lib.hid (HWQ.out.keep (Nat.le_refl _) hb)
          clear hb
          go_wp2_with fail
          refine (tokens_any up _ (HE.out.keep HBr.out) HPS.out).mono ?_
          rintro e ws ⟨h, hb⟩
          have HBs := Lib.hid (bthen HBr.out hb)
          have HWS := Lib.hid (HWR.out.keep (Nat.le_refl _) hb)
          clear hb
          rcases h with ⟨Q9, Aq, cq, g1, g2, rfl, g4, g5, g6, g7⟩ | ⟨g1, _⟩
          case inr => rw [HLP.out] at g1; cases g1
          obtain rfl : P = Q9 := Option.some.inj (HLP.out.symm.trans g1)
          have HWU := Lib.hid g4
          rw [← HPL.out]
          clear g1 g2 g4 g5 g6 g7
          go_wp2_with fail
          refine (alive_any _ (HE.out.keep HBs.out)).mono ?_
          rintro e wv ⟨rfl, hb⟩
          have HBv := Lib.hid (bthen HBs.out hb)
          have HWS2 := Lib.hid (HWS.out.keep (Nat.le_refl _) hb)
          have HWU2 := Lib.hid (HWU.out.keep (Nat.le_refl _) hb)
          clear hb
          go_wp2_with fail
          refine (refsame_any Ap Aq pl cp pl cq P P _ HWS2.out HWU2.out HPL.out HPL.out (by omega) (by omega) true ⟨fun _ => rfl, fun _ => rfl⟩).mono ?_
          rintro e wz ⟨rfl, hb⟩
          go_wp2_with fail
          go_ret
          exact ⟨rfl, bthen HBv.out hb⟩
        · have kz : ¬ (zu : Int) ≤ 400 := by omega
          have kq : ¬ (zq : Int) ≤ 400 := by omega
          clear hzu4 hzq4
          by_cases hs5 : 500 < zs
          · have ks : (500 : Int) < (zs : Int) := by omega
            clear hs5
            go_wp2_with fail
            refine (alive_any _ (HE.out.keep HB2.out)).mono ?_
            rintro e w9 ⟨rfl, hb9⟩
            go_wp2_with fail
            go_ret
            exact ⟨rfl, bthen HB2.out hb9⟩
          have ks : ¬ (500 : Int) < (zs : Int) := by omega
          clear hs5
          go_wp2_with fail
          refine (tokens_any s _ (HE.out.keep HB2.out) HSS.out).mono ?_
          rintro e wp ⟨h, hb⟩
          have HBp := Lib.hid (bthen HB2.out hb)
          clear hb
          rcases h with ⟨P, Ap, cp, g1, g2, rfl, g4, g5, g6, g7⟩ | ⟨g1, rfl⟩
          case inr =>
            clear g1
            go_wp2_with fail
            refine (alive_any _ (HE.out.keep HBp.out)).mono ?_
            rintro e w9 ⟨rfl, hb9⟩
            go_wp2_with fail
            go_ret
            exact ⟨rfl, bthen HBp.out hb9⟩
          case inl =>
          have HTP := Lib.hid (show toks (textL P) = some P ∧ smallT P from by
            have hlx : toks (dat s) = some P := by
              have h := g1; unfold lexT at h; split at h
              · cases h
              · exact h
            have hm := toks_mem _ (dat s) P (Nat.le_refl _) hlx
            have hsz : s.size ≤ 400 := by
              have h := g1; unfold lexT at h; split at h
              · cases h
              · omega
            exact ⟨toks_textL' P (fun t ht => (hm t ht).1), fun t ht => by have h1 := (hm t ht).2; have h2 := size_text t; rw [dat_len] at h1; omega⟩)
          obtain ⟨pl, hpl⟩ : ∃ pl, pl = P.length := ⟨_, rfl⟩
          rw [← hpl] at g2 ⊢
          have HPL := Lib.hid hpl
          have HWP := Lib.hid g4
          obtain ⟨up, hup⟩ : ∃ up, up = bsOf (textL P) := ⟨_, rfl⟩
          obtain ⟨zp, hzp⟩ : ∃ zp, up.size = zp := ⟨_, rfl⟩
          have HUP := Lib.hid hup
          have HZP := Lib.hid (show up.size = zp from hzp)
          have hzp9 : zp ≤ 2000000 := by
            have h := textL_len P HTP.out.2 P.length (Nat.le_refl _)
            rw [List.take_length] at h
            rw [← hzp, hup, size_bs, ← hpl] at *
            omega
          clear g1 g4 g5 g6 g7 hpl hup
          go_wp2_with fail
          refine (text_laws Ap pl cp P _ HWP.out HPL.out (by omega) HTP.out.2).mono ?_
          rw [← HUP.out]
          rintro e wq ⟨rfl, hb⟩
          have HBq := Lib.hid (bthen HBp.out hb)
          have HWQ := Lib.hid (HWP.out.keep (Nat.le_refl _) hb)
          clear hb
          by_cases hz4 : 400 < zp
          · have kp : (400 : Int) < (zp : Int) := by omega
            clear hz4
            go_wp2_with fail
            refine (alive_any _ (HE.out.keep HBq.out)).mono ?_
            rintro e w9 ⟨rfl, hb9⟩
            go_wp2_with fail
            go_ret
            exact ⟨rfl, bthen HBq.out hb9⟩
          have kp : ¬ (400 : Int) < (zp : Int) := by omega
          have HLP := Lib.hid (show lexT up = some P by unfold lexT; rw [HZP.out, if_neg hz4, HUP.out, dat_bs]; exact HTP.out.1)
          have HPS := Lib.hid (show up.size ≤ 9223372036854775807 by rw [HZP.out]; omega)
          clear hz4
          go_wp2_with fail
          refine (text_laws Ap pl cp P _ HWQ.out HPL.out (by omega) HTP.out.2).mono ?_
          rw [← HUP.out]
          rintro e wr2 ⟨rfl, hb⟩
          have HBr := Lib.hid (bthen HBq.out hb)
          have HWR := Lib.hid (HWQ.out.keep (Nat.le_refl _) hb)
          clear hb
          go_wp2_with fail
          refine (tokens_any up _ (HE.out.keep HBr.out) HPS.out).mono ?_
          rintro e ws ⟨h, hb⟩
          have HBs := Lib.hid (bthen HBr.out hb)
          have HWS := Lib.hid (HWR.out.keep (Nat.le_refl _) hb)
          clear hb
          rcases h with ⟨Q9, Aq, cq, g1, g2, rfl, g4, g5, g6, g7⟩ | ⟨g1, _⟩
          case inr => rw [HLP.out] at g1; cases g1
          obtain rfl : P = Q9 := Option.some.inj (HLP.out.symm.trans g1)
          have HWU := Lib.hid g4
          rw [← HPL.out]
          clear g1 g2 g4 g5 g6 g7
          go_wp2_with fail
          refine (alive_any _ (HE.out.keep HBs.out)).mono ?_
          rintro e wv ⟨rfl, hb⟩
          have HBv := Lib.hid (bthen HBs.out hb)
          have HWS2 := Lib.hid (HWS.out.keep (Nat.le_refl _) hb)
          have HWU2 := Lib.hid (HWU.out.keep (Nat.le_refl _) hb)
          clear hb
          go_wp2_with fail
          refine (refsame_any Ap Aq pl cp pl cq P P _ HWS2.out HWU2.out HPL.out HPL.out (by omega) (by omega) true ⟨fun _ => rfl, fun _ => rfl⟩).mono ?_
          rintro e wz ⟨rfl, hb⟩
          go_wp2_with fail
          go_ret
          exact ⟨rfl, bthen HBv.out hb⟩
end Go.Proofs.YtcpbjcemlkohkaaDoor
