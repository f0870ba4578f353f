/- The document's tokens. -/
import Derived.Test.YtcpbjcemlkohkaaDoorZ
namespace Go.Proofs.YtcpbjcemlkohkaaDoor
open Go.RowKit
set_option linter.unusedSimpArgs false
set_option linter.unusedVariables false
theorem sgn_cases {c : UInt8} (h : sgn c = true) : c = 44 ∨ c = 40 ∨ c = 41 ∨ c = 61 ∨ c = 60 ∨ c = 62 := by
  simp [sgn] at h
  rcases h with ((((h | h) | h) | h) | h) | h <;> simp [h]
theorem sgn_first {c : UInt8} {r : List UInt8} (h : sgn c = true) : firstT (c :: r) = some ((3, bsOf [c], 0), 1) := by
  rcases sgn_cases h with rfl | rfl | rfl | rfl | rfl | rfl <;> rfl
theorem toks_some {c : UInt8} {r : List UInt8} {t : Tok} {n : Nat} (hb : blank c = false) (h : firstT (c :: r) = some (t, n)) : toks (c :: r) = (toks ((c :: r).drop n)).map (t :: ·) := by rw [toks_first hb, h]
theorem toks_none {c : UInt8} {r : List UInt8} (hb : blank c = false) (h : firstT (c :: r) = none) : toks (c :: r) = none := by rw [toks_first hb, h]
theorem endR_bd {c : UInt8} {r : List UInt8} : 1 ≤ endR (c :: r) ∧ endR (c :: r) ≤ r.length + 1 := by
  unfold endR
  have e1 := cnt_le isW r
  have e2 := cnt_le isF r
  have e3 := cnt_le notQ r
  simp only []
  split
  · omega
  · split <;> omega
theorem one_ok {c : UInt8} {r : List UInt8} (h : isL c = true ∨ isF c = true ∨ c = 45 ∨ c = 34) : isL c = true ∨ c = 34 ∨ ∀ x ∈ figs ((c :: r).take (endR (c :: r))), isF x = true := by
  by_cases h1 : isL c = true
  · exact .inl h1
  by_cases h2 : c = 34
  · exact .inr (.inl h2)
  refine .inr (.inr ?_)
  have e : endR (c :: r) = cnt isF r + 1 := by unfold endR; simp only []; rw [if_neg h2, if_neg h1, Nat.add_comm]
  rw [e, List.take_succ_cons]
  intro x hx
  by_cases hc : c = 45
  · subst hc
    exact mem_cnt isF r hx
  · have hcf : isF c = true := by rcases h with h | h | h | h; exact absurd h h1; exact h; exact absurd h hc; exact absurd h h2
    have e2 : figs (c :: r.take (cnt isF r)) = c :: r.take (cnt isF r) := by unfold figs; rw [if_neg (by simpa using hc)]
    rw [e2] at hx
    rcases List.mem_cons.1 hx with rfl | hx
    · exact hcf
    · exact mem_cnt isF r hx
set_option maxRecDepth 100000 in
set_option maxHeartbeats 16000000 in
theorem reftokens_any (s : ByteArray) (w : World) (hs : s.size ≤ 9223372036854775807) : Calls Tryd.prog 9 #[.string s] w (ToksP w (lexT s)) := by
  obtain ⟨i0, hi0, hz0, hz1, hz2⟩ := info_parts info31
  obtain ⟨z, hz⟩ : ∃ z, s.size = z := ⟨_, rfl⟩
  have HLT := Lib.hid (show lexT s = if 400 < z then none else toks (dat s) by rw [← hz]; rfl)
  by_cases hbig : 400 < z
  · have hb : (400 : Int) < (z : Int) := by omega
    have HF := Lib.hid (show lexT s = none by rw [HLT.out, if_pos hbig])
    clear hbig
    go_enter Tryd.func9, Tryd.ntmps9
    go_wp2_with fail
    go_ret2
    exact ⟨.inr ⟨HF.out, rfl⟩, Below.refl _ _⟩
  · have hb : ¬ (400 : Int) < (z : Int) := by omega
    have hz4 : z ≤ 400 := by omega
    have HF := Lib.hid (show lexT s = toks (dat s) by rw [HLT.out, if_neg hbig])
    clear hbig hs
    go_enter Tryd.func9, Tryd.ntmps9
    go_wp2_with fail
    go_loopw [4, 5, 6, 7, 8, 9, 10, 11, 12] (fun v ii a6 a7 a8 a9 a10 a11 a12 wr => ∃ (i : Nat) (L : List Tok), ii = .int .i64 (i : Int) ∧ i ≤ z ∧ Hid (wr.ownsRow w.heap.size 31 3 v L.length (cellsT L)) ∧ Hid (Below w.heap.size w wr) ∧ Hid (lexT s = (toks ((dat s).drop i)).map (L ++ ·)) ∧ L.length ≤ i) (fun _ ii _ _ _ _ _ _ _ _ => z - (intOf ii).toNat)
    case atStart => exact ⟨0, [], rfl, by omega, Lib.hid (World.ownsRow_nil _ _ _ _), Lib.hid (Below.refl _ _), Lib.hid (by rw [HF.out]; show toks (dat s) = Option.map _ (toks (dat s)); cases toks (dat s) <;> simp), by simp⟩
    case round =>
      obtain ⟨i, L, rfl, hi, HO, HBW, HR, hl⟩ := hrel
      obtain ⟨l, hl2⟩ : ∃ l, l = L.length := ⟨_, rfl⟩
      rw [← hl2] at hl HO
      have HL := Lib.hid hl2
      have hszr : w.heap.size ≤ wr.heap.size := HBW.out.size
      clear hl2
      by_cases hlt : i < z
      case neg =>
        have hki : ¬ (i : Int) < (z : Int) := by omega
        have HX := Lib.hid (show lexT s = some L by rw [HR.out, List.drop_eq_nil_of_le (by rw [dat_len]; omega), toks_nil]; simp)
        obtain ⟨hln, A, c, rfl, h1, h2, h3, h4⟩ := own_slice3 HO.out
        have HRR := Lib.hid h1
        have HH4 := Lib.hid h4
        clear hlt h1 h4 hln
        go_wp2_with fail
        go_ret2
        exact ⟨.inl ⟨L, A, c, HX.out, by have := HL.out; omega, by rw [← HL.out]; rfl, HRR.out, by have := HL.out; omega, h3, HH4.out⟩, HBW.out⟩
      case pos =>
      have hki : (i : Int) < (z : Int) := by omega
      have his : i < s.size := by omega
      obtain ⟨c, hc⟩ : ∃ c, s[i] = c := ⟨_, rfl⟩
      obtain ⟨r, hr⟩ : ∃ r, r = (dat s).drop (i + 1) := ⟨_, rfl⟩
      have HRL := Lib.hid (show r.length = z - (i + 1) by rw [hr, List.length_drop, dat_len, hz])
      have hd := drop_cons his
      rw [hc, ← hr] at hd
      have HD := Lib.hid hd
      have HR2 := Lib.hid (show lexT s = (toks (c :: r)).map (L ++ ·) by rw [← hd]; exact HR.out)
      have HRD := Lib.hid hr
      clear hd hr hlt
      by_cases h32 : c = 32
      · have q32 : ((c.toNat : Int) == 32) = true := c_yes (k := 32) (by omega) h32
        have HX := Lib.hid (show lexT s = (toks ((dat s).drop (i + 1))).map (L ++ ·) by rw [HR2.out, toks_blank (by rw [h32]; rfl), HRD.out])
        clear h32
        go_wp2_with fail
        go_roundw
        case rel => exact ⟨i + 1, L, by go_num, by omega, by rw [← HL.out]; exact HO, HBW, HX, by have := HL.out; omega⟩
        case measure => simp [intOf]; omega
      have q32 : ((c.toNat : Int) == 32) = false := c_ne (k := 32) (by omega) h32
      have H32 := Lib.hid (show (c == 32) = false from beq_eq_false_iff_ne.2 h32)
      clear h32
      by_cases h9 : c = 9
      · have q9 : ((c.toNat : Int) == 9) = true := c_yes (k := 9) (by omega) h9
        have HX := Lib.hid (show lexT s = (toks ((dat s).drop (i + 1))).map (L ++ ·) by rw [HR2.out, toks_blank (by rw [h9]; rfl), HRD.out])
        clear h9
        go_wp2_with fail
        go_roundw
        case rel => exact ⟨i + 1, L, by go_num, by omega, by rw [← HL.out]; exact HO, HBW, HX, by have := HL.out; omega⟩
        case measure => simp [intOf]; omega
      have q9 : ((c.toNat : Int) == 9) = false := c_ne (k := 9) (by omega) h9
      have H9 := Lib.hid (show (c == 9) = false from beq_eq_false_iff_ne.2 h9)
      clear h9
      by_cases h10 : c = 10
      · have q10 : ((c.toNat : Int) == 10) = true := c_yes (k := 10) (by omega) h10
        have HX := Lib.hid (show lexT s = (toks ((dat s).drop (i + 1))).map (L ++ ·) by rw [HR2.out, toks_blank (by rw [h10]; rfl), HRD.out])
        clear h10
        go_wp2_with fail
        go_roundw
        case rel => exact ⟨i + 1, L, by go_num, by omega, by rw [← HL.out]; exact HO, HBW, HX, by have := HL.out; omega⟩
        case measure => simp [intOf]; omega
      have q10 : ((c.toNat : Int) == 10) = false := c_ne (k := 10) (by omega) h10
      have H10 := Lib.hid (show (c == 10) = false from beq_eq_false_iff_ne.2 h10)
      clear h10
      have HBL := Lib.hid (show blank c = false by unfold blank; rw [H32.out, H9.out, H10.out]; rfl)
      obtain ⟨sg, hsg⟩ : ∃ b, b = sgn c := ⟨_, rfl⟩
      have HSG := Lib.hid hsg
      clear hsg
      cases sg with
      | true =>
        have HX := Lib.hid (show lexT s = (toks ((dat s).drop (i + 1))).map ((L ++ [(3, bsOf [c], 0)]) ++ ·) by
          rw [HR2.out, toks_some HBL.out (sgn_first HSG.out.symm), HRD.out]; exact map_map')
        have hx1 : s.extract i (i + 1) = bsOf [c] := by
          rw [ext_mid, List.drop_take, HD.out]
          rw [show i + 1 - i = 1 by omega]; rfl
        have sl := slice_mid s i (i + 1) (by omega) (by omega)
        rw [hx1] at sl
        have sl : ∀ W, Sem.run Tryd.prog (Instr.slice 9 (.string s) (some (.int .i64 (i : Int))) (some (.int .i64 ((i : Int) + 1))) none) W = .ok (.string (bsOf [c])) W := fun W => by
          have := sl W; rw [show ((i + 1 : Nat) : Int) = (i : Int) + 1 by omega] at this; exact this
        clear hx1
        go_wp2_with fail
        refine (refsign_any c _ true HSG.out).mono ?_
        rintro e w1 ⟨rfl, rfl⟩
        go_wp2_with (at_builtin; refine wpList_append_own _ rfl _ _ 23 rfl w.heap.size 31 i0 (.agg #[.int .i64 0, .string ⟨#[]⟩, .int .i64 0]) 3 32 Tryd.underlying23 hi0 hz0 hz1 hz2 rfl (by decide) _ _ _ rfl (HO.out.alloc _) ⟨wr.heap.size, 0, none⟩ 1 1 [.int .i64 3, .string (bsOf [c]), .int .i64 0] rfl rfl ?c1a ?c2a ?c3a ?c4a ?c5a ?_)
        case c1a =>
          intro j u hj
          match j, hj with
          | 0, hj => simp at hj; subst hj; simp [Addr.add]
          | 1, hj => simp at hj; subst hj; simp [Addr.add]
          | 2, hj => simp at hj; subst hj; simp [Addr.add]
        case c2a => intro u hu; simp at hu; rcases hu with rfl | rfl | rfl <;> rfl
        case c3a => unfold maxLen; omega
        case c4a => omega
        case c5a => simp; omega
        intro v5 w5 ho5 hg5 _
        have hb5 : Below w.heap.size wr w5 := ((Below.refl _ wr).alloc hszr _).trans (grown_own3 (HO.out.alloc _) hg5 (by simp; omega))
        have HO5 := Lib.hid (show w5.ownsRow w.heap.size 31 3 v5 (L ++ [(3, (bsOf [c]), 0)]).length (cellsT (L ++ [(3, (bsOf [c]), 0)])) by rw [cellsT_app, List.length_append, ← HL.out]; exact ho5)
        have HB5 := Lib.hid (HBW.out.trans hb5)
        clear ho5 hg5 hb5
        go_wp2_with fail
        go_roundw
        case rel => exact ⟨i + 1, L ++ [(3, bsOf [c], 0)], by go_num, by omega, HO5, HB5, HX, by rw [List.length_append, ← HL.out]; simp; omega⟩
        case measure => simp [intOf]; omega
      | false =>
      obtain ⟨a, ha⟩ : ∃ b, b = isL c := ⟨_, rfl⟩
      obtain ⟨f, hf⟩ : ∃ b, b = isF c := ⟨_, rfl⟩
      have HA := Lib.hid ha
      have HFF := Lib.hid hf
      clear ha hf
      by_cases hok : a = true ∨ f = true ∨ c = 45 ∨ c = 34
      case neg =>
        have h1 : c ≠ 45 := fun e => hok (.inr (.inr (.inl e)))
        have h2 : c ≠ 34 := fun e => hok (.inr (.inr (.inr e)))
        obtain rfl : a = false := by cases a; rfl; exact absurd (.inl rfl) hok
        obtain rfl : f = false := by cases f; rfl; exact absurd (.inr (.inl rfl)) hok
        have HX := Lib.hid (show lexT s = none by
          rw [HR2.out, toks_none HBL.out (by rw [first_sign HA.out.symm h1 HFF.out.symm h2, if_neg (by rw [← HSG.out]; decide)])]; rfl)
        have k1 : ((c.toNat : Int) == 45) = false := c_ne (k := 45) (by omega) h1
        have k2 : ((c.toNat : Int) == 34) = false := c_ne (k := 34) (by omega) h2
        have k3 : ((c.toNat : Int) != 45) = true := by rw [bne, k1]; rfl
        have k4 : ((c.toNat : Int) != 34) = true := by rw [bne, k2]; rfl
        clear hok h1 h2
        go_wp2_with fail
        refine (refsign_any c _ false HSG.out).mono ?_
        rintro e w1 ⟨rfl, rfl⟩
        go_wp2_with fail
        refine (refletter_any c _ false HA.out).mono ?_
        rintro e w1 ⟨rfl, rfl⟩
        go_wp2_with fail
        refine (reffigure_any c _ false HFF.out).mono ?_
        rintro e w1 ⟨rfl, rfl⟩
        go_wp2_with fail
        go_ret2
        exact ⟨.inr ⟨HX.out, rfl⟩, HBW.out⟩
      case pos =>
      have hok2 : isL c = true ∨ isF c = true ∨ c = 45 ∨ c = 34 := by rw [← HA.out, ← HFF.out]; exact hok
      obtain ⟨n, hn⟩ : ∃ n, n = endR (c :: r) := ⟨_, rfl⟩
      have hnb := endR_bd (c := c) (r := r)
      rw [← hn, HRL.out] at hnb
      obtain ⟨hn1, hn2⟩ := hnb
      obtain ⟨p, hp⟩ : ∃ p, p = i + n := ⟨_, rfl⟩
      have hp1 : i < p := by omega
      have hp2 : p ≤ z := by omega
      have HP := Lib.hid (show p = i + endR ((dat s).drop i) by rw [HD.out, ← hn]; exact hp)
      obtain ⟨u, hu⟩ : ∃ u, u = s.extract i p := ⟨_, rfl⟩
      have HUD := Lib.hid (show dat u = (c :: r).take (endR (c :: r)) by rw [hu, ext_mid, dat_bs, List.drop_take, HD.out, ← hn]; congr 1; omega)
      have sl := slice_mid s i p (by omega) (by omega)
      rw [← hu] at sl
      have hus : u.size = p - i := by
        have h := congrArg List.length HUD.out
        rw [dat_len, List.length_take, List.length_cons, HRL.out, ← hn] at h; omega
      have hu0 : 0 < u.size := by omega
      have hu9 : u.size ≤ 1000000 := by omega
      have HU0 := Lib.hid hu0
      have HU9 := Lib.hid hu9
      have HUC := Lib.hid (show u[0] = c by
        have h1 := dat_cons u hu0
        rw [HUD.out, ← hn] at h1
        obtain ⟨m, rfl⟩ : ∃ m, n = m + 1 := ⟨n - 1, by omega⟩
        rw [List.take_succ_cons] at h1
        exact (List.cons.inj h1).1.symm)
      have HOK := Lib.hid (show isL u[0] = true ∨ u[0] = 34 ∨ ∀ x ∈ figs (dat u), isF x = true by rw [HUC.out, HUD.out]; exact one_ok hok2)
      have HFR := Lib.hid (show firstT (c :: r) = (oneR (dat u)).map (fun t => (t, n)) by rw [first_ref HSG.out.symm hok2, HUD.out, ← hn])
      have HNN := Lib.hid hp
      obtain ⟨k1, hk1⟩ : ∃ b, b = ((c.toNat : Int) == 45) := ⟨_, rfl⟩
      obtain ⟨k2, hk2⟩ : ∃ b, b = ((c.toNat : Int) == 34) := ⟨_, rfl⟩
      have hk3 : (!a && !f && !k1 && !k2) = false := by
        rcases hok with h | h | h | h
        · rw [h]; rfl
        · rw [h]; cases a <;> rfl
        · rw [show k1 = true by rw [hk1]; exact c_yes (k := 45) (by omega) h]; cases a <;> cases f <;> rfl
        · rw [show k2 = true by rw [hk2]; exact c_yes (k := 34) (by omega) h]; cases a <;> cases f <;> cases k1 <;> rfl
      have hk1' : ((c.toNat : Int) != 45) = !k1 := by rw [hk1]; rfl
      have hk2' : ((c.toNat : Int) != 34) = !k2 := by rw [hk2]; rfl
      have HK1 := Lib.hid hk1'
      have HK2 := Lib.hid hk2'
      have HK3 := Lib.hid hk3
      clear hok hok2 hn hp hu hus hu0 hu9 hk1 hk2 hk3 hk1' hk2' hn1 hn2
      go_wp2_with fail
      refine (refsign_any c _ false HSG.out).mono ?_
      rintro e w1 ⟨rfl, rfl⟩
      go_wp2_with fail
      refine (refletter_any c _ a HA.out).mono ?_
      rintro e w1 ⟨rfl, rfl⟩
      go_wp2_with fail
      refine (reffigure_any c _ f HFF.out).mono ?_
      rintro e w1 ⟨rfl, rfl⟩
      cases a <;> cases f <;> cases k1 <;> cases k2 <;> first | (exact absurd HK3.out (by decide)) | skip
      all_goals (
        have j1 := HK1.out
        have j2 := HK2.out
        simp only [Bool.not_true, Bool.not_false] at j1 j2
        go_wp2_with fail
        refine (refend_any s i _ (by omega) his p HP.out).mono ?_
        rintro e w1 ⟨rfl, rfl⟩
        go_wp2_with fail
        refine (refone_any u _ HU9.out HU0.out HOK.out).mono ?_
        rintro e w2 ⟨hr, hb2⟩
        have HB2 := Lib.hid (bthen HBW.out hb2)
        have HO2 := Lib.hid (own_below3 HO.out hb2)
        have hsz2 : w.heap.size ≤ w2.heap.size := HB2.out.size
        clear hb2 j1 j2
        rcases hr with ⟨⟨t0, t1, t2⟩, hv, rfl⟩ | ⟨hv, ⟨t0, t1, t2⟩, rfl⟩
        case inr =>
          have HX := Lib.hid (show lexT s = none by rw [HR2.out, toks_none HBL.out (by rw [HFR.out, hv]; rfl)]; rfl)
          clear hv
          unfold tokV
          go_wp2_with fail
          go_ret2
          exact ⟨.inr ⟨HX.out, rfl⟩, HB2.out.alloc HB2.out.size _⟩
        case inl =>
          have HX := Lib.hid (show lexT s = (toks ((dat s).drop p)).map ((L ++ [(t0, t1, t2)]) ++ ·) by
            have e1 : (c :: r).drop n = (dat s).drop p := by rw [← HD.out, List.drop_drop, ← HNN.out]
            rw [HR2.out, toks_some HBL.out (show firstT (c :: r) = some ((t0, t1, t2), n) by rw [HFR.out, hv]; rfl), e1]; exact map_map')
          clear hv
          unfold tokV
          go_wp2_with (at_builtin; refine wpList_append_own _ rfl _ _ 23 rfl w.heap.size 31 i0 (.agg #[.int .i64 0, .string ⟨#[]⟩, .int .i64 0]) 3 32 Tryd.underlying23 hi0 hz0 hz1 hz2 rfl (by decide) _ _ _ rfl ((HO2.out.alloc _).alloc _) ⟨w2.heap.size + 1, 0, none⟩ 1 1 [.int .i64 t0, .string t1, .int .i64 t2] rfl rfl ?c1b ?c2b ?c3b ?c4b ?c5b ?_)
          case c1b =>
            intro j u hj
            match j, hj with
            | 0, hj => simp at hj; subst hj; simp [Addr.add]
            | 1, hj => simp at hj; subst hj; simp [Addr.add]
            | 2, hj => simp at hj; subst hj; simp [Addr.add]
          case c2b => intro u hu; simp at hu; rcases hu with rfl | rfl | rfl <;> rfl
          case c3b => unfold maxLen; omega
          case c4b => omega
          case c5b => simp; omega
          intro v5 w5 ho5 hg5 _
          have hb5 : Below w.heap.size w2 w5 := (((Below.refl _ w2).alloc hsz2 _).alloc (by simp; omega) _).trans (grown_own3 ((HO2.out.alloc _).alloc _) hg5 (by simp; omega))
          have HO5 := Lib.hid (show w5.ownsRow w.heap.size 31 3 v5 (L ++ [(t0, t1, t2)]).length (cellsT (L ++ [(t0, t1, t2)])) by rw [cellsT_app, List.length_append, ← HL.out]; exact ho5)
          have HB5 := Lib.hid (HB2.out.trans hb5)
          clear ho5 hg5 hb5
          go_wp2_with fail
          go_roundw
          case rel => exact ⟨p, L ++ [(t0, t1, t2)], rfl, by omega, HO5, HB5, HX, by rw [List.length_append, ← HL.out]; simp; omega⟩
          case measure => simp [intOf]; omega)
end Go.Proofs.YtcpbjcemlkohkaaDoor
