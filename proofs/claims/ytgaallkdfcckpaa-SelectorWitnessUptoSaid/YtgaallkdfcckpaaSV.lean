/- Tells (3): the walk. -/
import Derived.Test.YtgaallkdfcckpaaSY
import Derived.Test.YtgaallkdfcckpaaSL
import Derived.BigQuiet
import Derived.Deep.RegionHeld3
namespace Go.Proofs.Ytgaallkdfcckpaa
open Go.RowKit Go.Maps Go.Lib Go.Shelf
set_option linter.unusedSimpArgs false
set_option linter.unusedVariables false
theorem chk_parts {a b c : Bool} (h : chkS a b c = 0) : a = true ∧ b = true ∧ c = true := by
  unfold chkS at h
  cases a <;> cases b <;> cases c <;> simp at h ⊢
structure SelOk (q : QZ) : Prop where
  ev : q.every = 0 ∨ okGran q.every
  f0 : 0 ≤ q.frm
  fu : q.frm < q.upto
  up : q.upto ≤ 1099511627776
theorem sel_ok {L M : List ByteArray} {q : QZ} (h : checkS L M q = 0) : SelOk q := by
  unfold checkS at h
  have h1 := (chk_parts h).2.2
  unfold boundedS numsS granB at h1
  simp only [Bool.and_eq_true, Bool.or_eq_true, decide_eq_true_eq] at h1
  have h2 := h1.2
  exact ⟨by simp_all, by simp_all, by simp_all, by simp_all⟩
theorem choose_len (S : List XZ) (el : XZ → Bool) (pk : XZ → XZ) {P : List XZ} {t er : Int} (h : chooseS S el pk = (P, t, er)) : P.length ≤ S.length := by
  unfold chooseS at h
  cases hf : S.find? (fun x => !el x) with
  | some x => rw [hf] at h; simp only [Prod.mk.injEq] at h; rw [← h.1]; simp
  | none => rw [hf] at h; simp only [Prod.mk.injEq] at h; rw [← h.1]; simp
structure SelRdy (w : World) (m : MZ) (q : QZ) : Prop where
  ch : ChOk w m.dA m.dn m.dc m.D q m.p m.eA m.en m.E m.fA m.fn m.F
  po : POk m.p
  sel : SelOk q
  en4 : m.en ≤ 4
  jn4 : m.p.jn ≤ 4
theorem sel_ready {w : World} {m : MZ} {q : QZ} (hm : MIn w m) (hq : QIn w q) (hf : FitsOk m q) (hd : m.dn ≤ 1100000) : SelRdy w m q := by
  have e1 := hm.el
  have e2 := hm.pi.t.len
  have e3 := hm.pi.j.len
  have e4 := hf.r.el
  have e5 := hf.r.pol.t4
  have e6 := hf.r.pol.j4
  refine ⟨⟨⟨hm.d, hq, by have := hf.fq.fb.1; have := hq.by_.len; omega, by have h1 := leaves_le q.f; have := hf.fq.tot; omega, (by have := hf.fq.fl.1; have := hm.d.len; omega)⟩, hm.pi, hm.e, hm.el, by omega, by omega, hm.f, hm.fl, hm.fm, by omega⟩, ⟨hf.r.pol.tg, ?_⟩, sel_ok hf.ck, by omega, by omega⟩
  intro z hz
  obtain ⟨k, hk, h1, h2, h3⟩ := hf.r.pol.jt z hz
  unfold coB at h2
  by_cases h : okGran z.g
  · exact h
  · simp [h] at h2
theorem choose_congr {S : List XZ} {el : XZ → Bool} {f g : XZ → XZ} (h : ∀ x ∈ S, el x = true → f x = g x) : chooseS S el f = chooseS S el g := by
  unfold chooseS
  cases hf : S.find? (fun x => !el x) with
  | some x => rfl
  | none =>
    have h2 : ∀ x ∈ S, el x = true := fun x hx => by
      have := List.find?_eq_none.1 hf x hx
      simpa using this
    simp only
    rw [List.map_congr_left (fun x hx => h x hx (h2 x hx))]
set_option maxRecDepth 100000 in
set_option maxHeartbeats 64000000 in
theorem tells_walk (m : MZ) (q : QZ) (w : World) (hm : MIn w m) (hq : QIn w q) (hd1 : m.dn ≤ 1100000) (hd2 : m.mn ≤ 1100000) (hds : ∀ s ∈ m.D, s.size ≤ 9223372036854775807) (hms : ∀ s ∈ m.M, s.size ≤ 9223372036854775807) : Calls Try.prog 3 #[.agg #[.slice m.dA m.dn m.dc, .slice m.mA m.mn m.mc, .slice m.p.tA m.p.tn m.p.tc, .slice m.p.jA m.p.jn m.p.jc, .int .i64 m.p.hor, .int .i64 m.now, .slice m.eA m.en m.ec, .int .i64 m.cnt, .slice m.sA m.sn m.sc, .slice m.fA m.fn m.fc, .string m.jr, .int .i64 m.nxt], .agg #[.slice q.tA q.tn q.tc, .int .i64 q.frm, .int .i64 q.upto, .int .i64 q.every, .slice q.bA q.bn q.bc, .int .i64 q.f.op, .string q.f.dim, .string q.f.val, .slice q.f.A q.f.n q.f.c, .slice q.hA q.hn q.hc, .int .i64 q.order, .int .i64 q.limit]] w (fun e w' => e = .returned (.bool true) ∧ Below w.heap.size w w') := by
  obtain ⟨wa, hwa⟩ : ∃ wa, wa = w.alloc (.cells #[.slice m.dA m.dn m.dc, .slice m.mA m.mn m.mc, .slice m.p.tA m.p.tn m.p.tc, .slice m.p.jA m.p.jn m.p.jc, .int .i64 m.p.hor, .int .i64 m.now, .slice m.eA m.en m.ec, .int .i64 m.cnt, .slice m.sA m.sn m.sc, .slice m.fA m.fn m.fc, .string m.jr, .int .i64 m.nxt] 34) := ⟨_, rfl⟩
  obtain ⟨w1, hw1⟩ : ∃ w1, w1 = wa.alloc (.cells #[.slice q.tA q.tn q.tc, .int .i64 q.frm, .int .i64 q.upto, .int .i64 q.every, .slice q.bA q.bn q.bc, .int .i64 q.f.op, .string q.f.dim, .string q.f.val, .slice q.f.A q.f.n q.f.c, .slice q.hA q.hn q.hc, .int .i64 q.order, .int .i64 q.limit] 42) := ⟨_, rfl⟩
  have ba : Below w.heap.size w wa := by rw [hwa]; exact bpush (Below.refl _ _) _
  have bb : Below wa.heap.size wa w1 := by rw [hw1]; exact bpush (Below.refl _ _) _
  have kM : Blk wa w.heap.size 34 #[.slice m.dA m.dn m.dc, .slice m.mA m.mn m.mc, .slice m.p.tA m.p.tn m.p.tc, .slice m.p.jA m.p.jn m.p.jc, .int .i64 m.p.hor, .int .i64 m.now, .slice m.eA m.en m.ec, .int .i64 m.cnt, .slice m.sA m.sn m.sc, .slice m.fA m.fn m.fc, .string m.jr, .int .i64 m.nxt] := by rw [hwa]; exact Blk.new _ _ _
  have kQ : Blk w1 wa.heap.size 42 #[.slice q.tA q.tn q.tc, .int .i64 q.frm, .int .i64 q.upto, .int .i64 q.every, .slice q.bA q.bn q.bc, .int .i64 q.f.op, .string q.f.dim, .string q.f.val, .slice q.f.A q.f.n q.f.c, .slice q.hA q.hn q.hc, .int .i64 q.order, .int .i64 q.limit] := by rw [hw1]; exact Blk.new _ _ _
  have sza : wa.heap.size = w.heap.size + 1 := by rw [hwa]; simp
  rw [sza] at kQ
  have kM := kM.below bb
  have hb1 := bthen ba bb
  have HB1 := Lib.hid hb1
  obtain ⟨G, hGe⟩ : ∃ G, G = w.heap.size := ⟨_, rfl⟩
  obtain ⟨Q, hQe⟩ : ∃ Q, Q = w.heap.size + 1 := ⟨_, rfl⟩
  rw [← hGe] at kM
  rw [← hQe] at kQ
  have HKM := Lib.hid kM
  have HKQ := Lib.hid kQ
  have HM := Lib.hid (hm.keep (Nat.le_refl _) hb1)
  have HQ := Lib.hid (hq.keep (Nat.le_refl _) hb1)
  have HCE := Lib.hid (fun W (hW : Below w1.heap.size w1 W) => And.intro (m_cells (HKM.out.below hW)) (q_cells (HKQ.out.below hW)))
  have HW1 := Lib.hid (show w1 = (w.alloc (.cells #[.slice m.dA m.dn m.dc, .slice m.mA m.mn m.mc, .slice m.p.tA m.p.tn m.p.tc, .slice m.p.jA m.p.jn m.p.jc, .int .i64 m.p.hor, .int .i64 m.now, .slice m.eA m.en m.ec, .int .i64 m.cnt, .slice m.sA m.sn m.sc, .slice m.fA m.fn m.fc, .string m.jr, .int .i64 m.nxt] 34)).alloc (.cells #[.slice q.tA q.tn q.tc, .int .i64 q.frm, .int .i64 q.upto, .int .i64 q.every, .slice q.bA q.bn q.bc, .int .i64 q.f.op, .string q.f.dim, .string q.f.val, .slice q.f.A q.f.n q.f.c, .slice q.hA q.hn q.hc, .int .i64 q.order, .int .i64 q.limit] 42) by rw [hw1, hwa])
  have HE2 := Lib.hid (And.intro hGe hQe)
  have H7 := Lib.hid (fits7 m q w1 HM.out HQ.out hd1 hd2 hds hms)
  have HD1 := Lib.hid hd1
  obtain ⟨⟨d0, d1, d2, d3, d4, d5, d6, d7, d8, d9, d10, d11⟩, ⟨c0, c1, c2, c3, c4, c5, c6, c7, c8, c9, c10, c11⟩⟩ := HCE.out w1 (Below.refl _ _)
  clear hwa hw1 ba bb kM kQ sza hb1 hm hq hGe hQe hds hms hd1 hd2
  go_enter Try.func3, Try.ntmps3
  go_upto_region 1 with fail
  rw [← HW1.out, ← HE2.out.2, ← HE2.out.1]
  go_upto_region 2 with (go_at_call 7; refine H7.out.mono ?_; rintro e w2 ⟨⟨r, rfl, hr⟩, hb⟩; have HR := Lib.hid hr; have HB2 := Lib.hid hb; clear hb hr)
  clear d0 d1 d2 d3 d4 d5 d6 d7 d8 d9 d10 d11 c0 c1 c2 c3 c4 c5 c6 c7 c8 c9 c10 c11
  cases r with
  | false =>
    go_wp2_with (go_at_call 8; refine (alive_any _).mono ?_; rintro e w3 ⟨rfl, hb⟩; have HB3 := Lib.hid (bthen HB2.out hb); clear hb)
    go_ret
    exact ⟨rfl, bthen HB1.out HB3.out⟩
  | true =>
  have HF := Lib.hid (HR.out rfl)
  have HSO := Lib.hid (sel_ready HM.out HQ.out HF.out HD1.out)
  clear HR H7
  obtain ⟨⟨d0, d1, d2, d3, d4, d5, d6, d7, d8, d9, d10, d11⟩, ⟨c0, c1, c2, c3, c4, c5, c6, c7, c8, c9, c10, c11⟩⟩ := HCE.out w2 HB2.out
  obtain ⟨P, t, er, hP⟩ : ∃ P t er, chooseS (strS m.E q.frm q.upto m.en) (elC m.D q m.p) (pickS (elC m.D q m.p) m.F m.p.jn) = (P, t, er) := ⟨_, _, _, rfl⟩
  have hPn : P.length ≤ 4 := by have := choose_len _ _ _ hP; have := strS_len m.E q.frm q.upto m.en; have := HSO.out.en4; omega
  have hP2 : chooseS (strS m.E q.frm q.upto m.en) (elC m.D q m.p) (fun x => bestS (elC m.D q m.p) m.F m.p.J x m.p.jn) = (P, t, er) := by
    rw [← hP]
    refine choose_congr fun x hx h => ?_
    obtain ⟨i, -, hxi, -⟩ := strS_mem hx
    exact (pick_best (by rw [hxi]; show (-1 : Int) < 0; omega) m.p.jn h).symm
  have HPN := Lib.hid hPn
  have H14 := Lib.hid (fun W (hW : Below w1.heap.size w1 W) => choose_any m.dA m.mA m.dn m.dc m.mn m.mc m.D q m.p m.eA m.en m.ec m.E m.fA m.fn m.fc m.F W (HSO.out.ch.keep (Nat.le_refl _) hW) P t er hP)
  have H15 := Lib.hid (fun W (hW : Below w1.heap.size w1 W) => rchoose_any m.dA m.mA m.dn m.dc m.mn m.mc m.D q m.p m.eA m.en m.ec m.E m.fA m.fn m.fc m.F W (HSO.out.ch.keep (Nat.le_refl _) hW) HSO.out.po HSO.out.sel.ev P t er hP2)
  clear hP hPn hP2
  obtain ⟨S, hS⟩ : ∃ S, S = strS m.E q.frm q.upto m.en := ⟨_, rfl⟩
  have HS := Lib.hid hS
  have H9 := Lib.hid (show Calls Try.prog 9 #[.agg #[.slice m.p.tA m.p.tn m.p.tc, .slice m.p.jA m.p.jn m.p.jc, .int .i64 m.p.hor], .slice m.eA m.en m.ec, .agg #[.slice q.tA q.tn q.tc, .int .i64 q.frm, .int .i64 q.upto, .int .i64 q.every, .slice q.bA q.bn q.bc, .int .i64 q.f.op, .string q.f.dim, .string q.f.val, .slice q.f.A q.f.n q.f.c, .slice q.hA q.hn q.hc, .int .i64 q.order, .int .i64 q.limit]] w2 (PlansP w2 S) by rw [HS.out]; exact rstr_any m.p q m.eA m.en m.ec m.E w2 (HSO.out.ch.keep (Nat.le_refl _) HB2.out).e HSO.out.ch.el HSO.out.ch.et HSO.out.ch.e20)
  have H11 := Lib.hid (fun W (hW : Below w1.heap.size w1 W) => show Calls Try.prog 11 #[.agg #[.slice m.p.tA m.p.tn m.p.tc, .slice m.p.jA m.p.jn m.p.jc, .int .i64 m.p.hor], .slice m.eA m.en m.ec, .agg #[.slice q.tA q.tn q.tc, .int .i64 q.frm, .int .i64 q.upto, .int .i64 q.every, .slice q.bA q.bn q.bc, .int .i64 q.f.op, .string q.f.dim, .string q.f.val, .slice q.f.A q.f.n q.f.c, .slice q.hA q.hn q.hc, .int .i64 q.order, .int .i64 q.limit]] W (PlansP W S) by rw [HS.out]; exact str_any m.p q m.eA m.en m.ec m.E W (HSO.out.ch.keep (Nat.le_refl _) hW).e HSO.out.ch.el HSO.out.ch.et HSO.out.ch.e20)
  have HSN := Lib.hid (show S.length ≤ 4 by rw [HS.out]; have := strS_len m.E q.frm q.upto m.en; have := HSO.out.en4; omega)
  clear hS
  go_upto_region 5 with (go_at_call 9; refine H9.out.mono ?_; rintro e w3 ⟨v, rfl, ho, hb⟩; obtain ⟨A, c, rfl, hr, -, -⟩ := own_sliceX (L := S) ho; have HRA := Lib.hid hr; have HB3 := Lib.hid (bthen HB2.out hb); clear hb ho hr)
  clear d0 d1 d2 d3 d4 d5 d6 d7 d8 d9 d10 d11 c0 c1 c2 c3 c4 c5 c6 c7 c8 c9 c10 c11
  obtain ⟨⟨d0, d1, d2, d3, d4, d5, d6, d7, d8, d9, d10, d11⟩, ⟨c0, c1, c2, c3, c4, c5, c6, c7, c8, c9, c10, c11⟩⟩ := HCE.out w3 HB3.out
  have H11' := Lib.hid (H11.out w3 HB3.out)
  go_upto_region 8 with (first
    | (go_at_call 10; refine (same10 _ _ _ _ _ _ S S _ HRB.out (HRA.out.keep (Nat.le_refl _) HB4.out) rfl rfl (by have := HSN.out; omega) (by have := HSN.out; omega)).mono ?_; rintro e w5 ⟨rfl, hb⟩; have HB5 := Lib.hid (bthen HB3.out (bthen HB4.out hb)); have HB35 := Lib.hid (bthen HB4.out hb); clear hb; rw [show decide (S = S) = true from decide_eq_true rfl])
    | (go_at_call 11; refine H11'.out.mono ?_; rintro e w4 ⟨v, rfl, ho, hb⟩; obtain ⟨B, cb, rfl, hr, -, -⟩ := own_sliceX (L := S) ho; have HRB := Lib.hid hr; have HB4 := Lib.hid hb; clear hb ho hr))
  clear HRB HB4 d0 d1 d2 d3 d4 d5 d6 d7 d8 d9 d10 d11 c0 c1 c2 c3 c4 c5 c6 c7 c8 c9 c10 c11 H11' H9 H11
  go_loopw [7] (fun vk wr => ∃ i : Nat, i ≤ S.length ∧ vk = .int .i64 i ∧ Hid (Below w1.heap.size w1 wr) ∧ Hid (Below w3.heap.size w3 wr)) (fun vk _ => S.length - (intOf vk).toNat)
  case atStart => exact ⟨0, by omega, rfl, HB5, HB35⟩
  case round =>
    obtain ⟨i, hi, rfl, HB, HBA⟩ := hrel
    obtain ⟨wo, rfl⟩ : ∃ wo : World, wo = wr := ⟨_, rfl⟩
    obtain ⟨⟨d0, d1, d2, d3, d4, d5, d6, d7, d8, d9, d10, d11⟩, ⟨c0, c1, c2, c3, c4, c5, c6, c7, c8, c9, c10, c11⟩⟩ := HCE.out wo HB.out
    by_cases hlt : i < S.length
    case neg =>
      obtain rfl : i = S.length := by omega
      have hge : ¬ (S.length : Int) < (S.length : Int) := by omega
      have H14' := Lib.hid (H14.out wo HB.out)
      clear hlt
      go_upto_region 19 with (go_at_call 14; refine H14'.out.mono ?_; rintro e w6 ⟨X, n6, k6, rfl, hn6, hr, hb⟩; subst hn6; have HRX := Lib.hid hr; have HB6 := Lib.hid hb; clear hr hb)
      have HBX := Lib.hid (bthen HB.out HB6.out)
      clear d0 d1 d2 d3 d4 d5 d6 d7 d8 d9 d10 d11 c0 c1 c2 c3 c4 c5 c6 c7 c8 c9 c10 c11
      obtain ⟨⟨d0, d1, d2, d3, d4, d5, d6, d7, d8, d9, d10, d11⟩, ⟨c0, c1, c2, c3, c4, c5, c6, c7, c8, c9, c10, c11⟩⟩ := HCE.out w6 HBX.out
      have H15' := Lib.hid (H15.out w6 HBX.out)
      go_upto_region 20 with (go_at_call 15; refine H15'.out.mono ?_; rintro e w7 ⟨Y, n7, k7, rfl, hn7, hr, hb⟩; subst hn7; have HRY := Lib.hid hr; have HB7 := Lib.hid hb; clear hr hb)
      clear d0 d1 d2 d3 d4 d5 d6 d7 d8 d9 d10 d11 c0 c1 c2 c3 c4 c5 c6 c7 c8 c9 c10 c11
      go_wp2_with (first
        | (go_at_call 10; refine (same10 _ _ _ _ _ _ P P _ (HRX.out.keep (Nat.le_refl _) (bthen HB7.out HB8.out)) (HRY.out.keep (Nat.le_refl _) HB8.out) rfl rfl (by have := HPN.out; omega) (by have := HPN.out; omega)).mono ?_; rintro e w9 ⟨rfl, hb⟩; have HB9 := Lib.hid hb; clear hb; rw [show decide (P = P) = true from decide_eq_true rfl])
        | (go_at_call 8; refine (alive_any _).mono ?_; rintro e w8 ⟨rfl, hb⟩; have HB8 := Lib.hid hb; clear hb))
      go_ret
      exact ⟨rfl, bthen HB1.out (bthen HBX.out (bthen HB7.out (bthen HB8.out HB9.out)))⟩
    case pos =>
    have hii : (i : Int) < (S.length : Int) := by omega
    have hi0 : (0 : Int) ≤ (i : Int) := by omega
    obtain ⟨b, off, hAe, q0, q1, q2, q3, q4⟩ := x_cells (HRA.out.keep (Nat.le_refl _) HBA.out) hlt
    obtain ⟨x, hx⟩ : ∃ x, x = S[i] := ⟨_, rfl⟩
    rw [← hx] at q0 q1 q2 q3 q4
    have hxm : x ∈ S := by rw [hx]; exact List.getElem_mem _
    rw [HS.out] at hxm
    obtain ⟨t0, ht0, hxe, -⟩ := strS_mem hxm
    have HT0 := Lib.hid (show x.tier = (t0 : Int) ∧ t0 < m.p.T.length from ⟨by rw [hxe]; rfl, by have := HSO.out.ch.et; have := HM.out.pi.t.len; omega⟩)
    have HCX := Lib.hid (fun W (hW : Below wo.heap.size wo W) => And.intro (cell_on hW q0) (And.intro (cell_on hW q1) (And.intro (cell_on hW q2) (And.intro (cell_on hW q3) (cell_on hW q4)))))
    subst hAe
    have HIL := Lib.hid hlt
    clear hx hxm hxe ht0 hlt
    go_upto_region 11 with fail
    clear q0 q1 q2 q3 q4 d0 d1 d2 d3 d4 d5 d6 d7 d8 d9 d10 d11 c0 c1 c2 c3 c4 c5 c6 c7 c8 c9 c10 c11
    go_loopw [8] (fun vk wr => ∃ k : Nat, k ≤ m.p.jn + 1 ∧ vk = .int .i64 ((k : Int) - 1) ∧ Hid (Below wo.heap.size wo wr)) (fun vk _ => m.p.jn + 1 - ((intOf vk) + 1).toNat)
    case atStart => exact ⟨0, by omega, rfl, Lib.hid (Below.refl _ _)⟩
    case round =>
      obtain ⟨k, hk, rfl, HBI⟩ := hrel
      obtain ⟨wi, rfl⟩ : ∃ wi : World, wi = wr := ⟨_, rfl⟩
      have HBJ := Lib.hid (bthen HB.out HBI.out)
      obtain ⟨⟨d0, d1, d2, d3, d4, d5, d6, d7, d8, d9, d10, d11⟩, ⟨c0, c1, c2, c3, c4, c5, c6, c7, c8, c9, c10, c11⟩⟩ := HCE.out wi HBJ.out
      have hj4 := HSO.out.jn4
      obtain ⟨jv, hjv⟩ : ∃ jv : Int, jv = (k : Int) - 1 := ⟨_, rfl⟩
      rw [← hjv]
      by_cases hlk : k < m.p.jn + 1
      case neg =>
        have hge : ¬ jv < (m.p.jn : Int) := by omega
        have HB3' := Lib.hid (bthen HBA.out HBI.out)
        have HIL2 := HIL.out
        have hs4 := HSN.out
        clear hlk hjv
        go_wp2_with fail
        go_roundw
        case rel => exact ⟨i + 1, by omega, by go_num, HBJ, HB3'⟩
        case measure => simp [intOf]; omega
      case pos =>
      have hjl : jv < (m.p.jn : Int) := by omega
      obtain ⟨q0, q1, q2, q3, q4⟩ := HCX.out wi HBI.out
      obtain ⟨wb, hwb⟩ : ∃ wb, wb = wi.alloc (.cells #[.int .i64 x.frm, .int .i64 x.upto, .int .i64 x.tier, .int .i64 jv, .int .i64 x.rows] 49) := ⟨_, rfl⟩
      have hbb : Below wi.heap.size wi wb := by rw [hwb]; exact bpush (Below.refl _ _) _
      have hkb : Blk wb wi.heap.size 49 #[.int .i64 x.frm, .int .i64 x.upto, .int .i64 x.tier, .int .i64 jv, .int .i64 x.rows] := by rw [hwb]; exact Blk.new _ _ _
      have HBB := Lib.hid (bthen HBI.out hbb)
      have HBC := Lib.hid (bthen HBJ.out hbb)
      have HWB := Lib.hid hwb
      obtain ⟨Y, hY⟩ : ∃ Y, Y = wi.heap.size := ⟨_, rfl⟩
      rw [← hY] at hkb
      have HKB := Lib.hid hkb
      have HYE := Lib.hid hY
      have HALL := Lib.hid (fun W (hW : Below wb.heap.size wb W) => And.intro (HCE.out W (bthen HBC.out hW)) (xz_cells (x := ⟨x.frm, x.upto, x.tier, jv, x.rows⟩) (HKB.out.below hW)))
      have HKV := Lib.hid hjv
      clear hwb hbb hkb hY hjv
      go_upto_region 15 with fail
      rw [← HWB.out]
      try rw [← HYE.out]
      clear q0 q1 q2 q3 q4 d0 d1 d2 d3 d4 d5 d6 d7 d8 d9 d10 d11 c0 c1 c2 c3 c4 c5 c6 c7 c8 c9 c10 c11
      obtain ⟨⟨⟨d0, d1, d2, d3, d4, d5, d6, d7, d8, d9, d10, d11⟩, ⟨c0, c1, c2, c3, c4, c5, c6, c7, c8, c9, c10, c11⟩⟩, y0, y1, y2, y3, y4⟩ := HALL.out wb (Below.refl _ _)
      have HNX := Lib.hid (show Value.int .i64 (jv + 1) = Value.int .i64 (((k + 1 : Nat) : Int) - 1) by rw [HKV.out]; congr 1; omega)
      by_cases h0 : 0 ≤ jv
      case neg =>
        obtain rfl : jv = -1 := by have := HKV.out; omega
        have HZ := Lib.hid (show ∃ z, cubC m.p x.tier (-1) = some z ∧ okGran z.g from ⟨_, by rw [HT0.out.1]; exact cub_own HT0.out.2, HSO.out.po.tg _ (List.getElem_mem _)⟩)
        clear h0
        go_quiet (fail)
        obtain ⟨wk, hwk⟩ : ∃ wk, wk = wb.drewN nq := ⟨_, rfl⟩
        have HBK := Lib.hid (show Below wb.heap.size wb wk by rw [hwk]; exact below_drewN (Below.refl _ _) _)
        rw [← hwk]
        clear hwk
        obtain ⟨z, hz1, hz2⟩ := HZ.out
        obtain ⟨r, hr⟩ : ∃ r, r = eligC (usedQ m.D q) q.every m.p ⟨x.frm, x.upto, x.tier, (-1), x.rows⟩ := ⟨_, rfl⟩
        have HEL := Lib.hid (fun W (hW : Below wb.heap.size wb W) => show Calls Try.prog 12 #[.agg #[.slice m.dA m.dn m.dc, .slice m.mA m.mn m.mc], .agg #[.slice m.p.tA m.p.tn m.p.tc, .slice m.p.jA m.p.jn m.p.jc, .int .i64 m.p.hor], .agg #[.slice q.tA q.tn q.tc, .int .i64 q.frm, .int .i64 q.upto, .int .i64 q.every, .slice q.bA q.bn q.bc, .int .i64 q.f.op, .string q.f.dim, .string q.f.val, .slice q.f.A q.f.n q.f.c, .slice q.hA q.hn q.hc, .int .i64 q.order, .int .i64 q.limit], .agg #[.int .i64 x.frm, .int .i64 x.upto, .int .i64 x.tier, .int .i64 (-1), .int .i64 x.rows]] W (fun e w' => e = .returned (.bool r) ∧ Below W.heap.size W w') from by
          rw [hr]; exact elig_any m.dA m.mA m.dn m.dc m.mn m.mc m.D q m.p ⟨x.frm, x.upto, x.tier, (-1), x.rows⟩ W ((HSO.out.ch.keep (Nat.le_refl _) (bthen HBC.out hW)).u) (HM.out.pi.keep (Nat.le_refl _) (bthen HBC.out hW)))
        have HRL := Lib.hid (fun W (hW : Below wb.heap.size wb W) => show Calls Try.prog 13 #[.agg #[.slice m.dA m.dn m.dc, .slice m.mA m.mn m.mc], .agg #[.slice m.p.tA m.p.tn m.p.tc, .slice m.p.jA m.p.jn m.p.jc, .int .i64 m.p.hor], .agg #[.slice q.tA q.tn q.tc, .int .i64 q.frm, .int .i64 q.upto, .int .i64 q.every, .slice q.bA q.bn q.bc, .int .i64 q.f.op, .string q.f.dim, .string q.f.val, .slice q.f.A q.f.n q.f.c, .slice q.hA q.hn q.hc, .int .i64 q.order, .int .i64 q.limit], .agg #[.int .i64 x.frm, .int .i64 x.upto, .int .i64 x.tier, .int .i64 (-1), .int .i64 x.rows]] W (fun e w' => e = .returned (.bool r) ∧ Below W.heap.size W w') from by
          rw [hr]; exact relig_any m.dA m.mA m.dn m.dc m.mn m.mc m.D q m.p ⟨x.frm, x.upto, x.tier, (-1), x.rows⟩ z W ((HSO.out.ch.keep (Nat.le_refl _) (bthen HBC.out hW)).u) (HM.out.pi.keep (Nat.le_refl _) (bthen HBC.out hW)) hz1 hz2 HSO.out.sel.ev)
        clear hr hz1 hz2 HZ y0 y1 y2 y3 y4 d0 d1 d2 d3 d4 d5 d6 d7 d8 d9 d10 d11 c0 c1 c2 c3 c4 c5 c6 c7 c8 c9 c10 c11
        obtain ⟨⟨⟨d0, d1, d2, d3, d4, d5, d6, d7, d8, d9, d10, d11⟩, ⟨c0, c1, c2, c3, c4, c5, c6, c7, c8, c9, c10, c11⟩⟩, y0, y1, y2, y3, y4⟩ := HALL.out wk HBK.out
        go_upto_region 16 with fail
        go_region_held3 (fun W => (W.cell? ⟨G, 0, none⟩ = some (.slice m.dA m.dn m.dc) ∧ W.cell? ⟨G, 1, none⟩ = some (.slice m.mA m.mn m.mc) ∧ W.cell? ⟨G, 2, none⟩ = some (.slice m.p.tA m.p.tn m.p.tc) ∧ W.cell? ⟨G, 3, none⟩ = some (.slice m.p.jA m.p.jn m.p.jc) ∧ W.cell? ⟨G, 4, none⟩ = some (.int .i64 m.p.hor) ∧ W.cell? ⟨Q, 0, none⟩ = some (.slice q.tA q.tn q.tc) ∧ W.cell? ⟨Q, 1, none⟩ = some (.int .i64 q.frm) ∧ W.cell? ⟨Q, 2, none⟩ = some (.int .i64 q.upto) ∧ W.cell? ⟨Q, 3, none⟩ = some (.int .i64 q.every) ∧ W.cell? ⟨Q, 4, none⟩ = some (.slice q.bA q.bn q.bc) ∧ W.cell? ⟨Q, 5, none⟩ = some (.int .i64 q.f.op) ∧ W.cell? ⟨Q, 6, none⟩ = some (.string q.f.dim) ∧ W.cell? ⟨Q, 7, none⟩ = some (.string q.f.val) ∧ W.cell? ⟨Q, 8, none⟩ = some (.slice q.f.A q.f.n q.f.c) ∧ W.cell? ⟨Q, 9, none⟩ = some (.slice q.hA q.hn q.hc) ∧ W.cell? ⟨Q, 10, none⟩ = some (.int .i64 q.order) ∧ W.cell? ⟨Q, 11, none⟩ = some (.int .i64 q.limit) ∧ W.cell? ⟨Y, 0, none⟩ = some (.int .i64 x.frm) ∧ W.cell? ⟨Y, 1, none⟩ = some (.int .i64 x.upto) ∧ W.cell? ⟨Y, 2, none⟩ = some (.int .i64 x.tier) ∧ W.cell? ⟨Y, 3, none⟩ = some (.int .i64 (-1)) ∧ W.cell? ⟨Y, 4, none⟩ = some (.int .i64 x.rows)) ∧ Below wb.heap.size wb W)
          (first
            | (obtain ⟨⟨⟨x0, x1, x2, x3, x4, x5, x6, x7, x8, x9, x10, x11⟩, ⟨u0, u1, u2, u3, u4, u5, u6, u7, u8, u9, u10, u11⟩⟩, v0, v1, v2, v3, v4⟩ := HALL.out _ hby; exact ⟨⟨x0, x1, x2, x3, x4, u0, u1, u2, u3, u4, u5, u6, u7, u8, u9, u10, u11, v0, v1, v2, v3, v4⟩, hby⟩)
            | (obtain ⟨⟨⟨x0, x1, x2, x3, x4, x5, x6, x7, x8, x9, x10, x11⟩, ⟨u0, u1, u2, u3, u4, u5, u6, u7, u8, u9, u10, u11⟩⟩, v0, v1, v2, v3, v4⟩ := HALL.out _ hbz; exact ⟨⟨x0, x1, x2, x3, x4, u0, u1, u2, u3, u4, u5, u6, u7, u8, u9, u10, u11, v0, v1, v2, v3, v4⟩, hbz⟩)
            | (obtain ⟨⟨⟨x0, x1, x2, x3, x4, x5, x6, x7, x8, x9, x10, x11⟩, ⟨u0, u1, u2, u3, u4, u5, u6, u7, u8, u9, u10, u11⟩⟩, v0, v1, v2, v3, v4⟩ := HALL.out _ (below_drewN HBK.out 1); exact ⟨⟨x0, x1, x2, x3, x4, u0, u1, u2, u3, u4, u5, u6, u7, u8, u9, u10, u11, v0, v1, v2, v3, v4⟩, (below_drewN HBK.out 1)⟩))
          (first
            | (go_at_call 12; refine (HEL.out _ hbz).mono ?_; rintro e w8 ⟨rfl, hb⟩; have hby : Below wb.heap.size wb w8 := bthen hbz hb; clear hb)
            | (go_at_call 13; refine (HRL.out _ hbz).mono ?_; rintro e w8 ⟨rfl, hb⟩; have hby : Below wb.heap.size wb w8 := bthen hbz hb; clear hb)
            | (go_at_call 12; refine (HEL.out _ (below_drewN HBK.out 1)).mono ?_; rintro e w7 ⟨rfl, hb⟩; have hbz : Below wb.heap.size wb w7 := bthen (below_drewN HBK.out 1) hb; clear hb)
            | (go_at_call 13; refine (HRL.out _ (below_drewN HBK.out 1)).mono ?_; rintro e w7 ⟨rfl, hb⟩; have hbz : Below wb.heap.size wb w7 := bthen (below_drewN HBK.out 1) hb; clear hb))
        all_goals
          have HB9 := Lib.hid (bthen HBB.out hby)
          have hs4 := HSO.out.jn4
          go_wp2_with fail
          go_roundw
          case rel => exact ⟨k + 1, by omega, by first | exact HNX.out | (rw [← HNX.out]; go_num), HB9⟩
          case measure => have := HKV.out; (simp [intOf] <;> omega)
      case pos =>
      obtain ⟨j, rfl⟩ : ∃ j : Nat, jv = (j : Int) := ⟨jv.toNat, by omega⟩
      have hjz : j < m.p.J.length := by have := HM.out.pi.j.len; omega
      have hj0 : (0 : Int) ≤ (j : Int) := by omega
      obtain ⟨b2, off2, hAe2, r0, r1, r2⟩ := tz_cells (HM.out.pi.j.row.keep (Nat.le_refl _) HBC.out) hjz
      obtain ⟨yx, hyx⟩ : ∃ y, y = (m.p.J[j]'hjz).x := ⟨_, rfl⟩
      rw [← hyx] at r0
      rw [hAe2] at d3
      by_cases he : yx = x.tier
      · have HZ := Lib.hid (show ∃ z, cubC m.p x.tier (j : Int) = some z ∧ okGran z.g from ⟨_, by rw [HT0.out.1]; exact cub_proj HT0.out.2 hjz (by rw [← hyx, he]; exact HT0.out.1), HSO.out.po.jg _ (List.getElem_mem _)⟩)
        rw [he] at r0
        clear hyx he h0
        go_quiet (fail)
        clear r0 r1 r2 hAe2
        obtain ⟨wk, hwk⟩ : ∃ wk, wk = wb.drewN nq := ⟨_, rfl⟩
        have HBK := Lib.hid (show Below wb.heap.size wb wk by rw [hwk]; exact below_drewN (Below.refl _ _) _)
        rw [← hwk]
        clear hwk
        obtain ⟨z, hz1, hz2⟩ := HZ.out
        obtain ⟨r, hr⟩ : ∃ r, r = eligC (usedQ m.D q) q.every m.p ⟨x.frm, x.upto, x.tier, (j : Int), x.rows⟩ := ⟨_, rfl⟩
        have HEL := Lib.hid (fun W (hW : Below wb.heap.size wb W) => show Calls Try.prog 12 #[.agg #[.slice m.dA m.dn m.dc, .slice m.mA m.mn m.mc], .agg #[.slice m.p.tA m.p.tn m.p.tc, .slice m.p.jA m.p.jn m.p.jc, .int .i64 m.p.hor], .agg #[.slice q.tA q.tn q.tc, .int .i64 q.frm, .int .i64 q.upto, .int .i64 q.every, .slice q.bA q.bn q.bc, .int .i64 q.f.op, .string q.f.dim, .string q.f.val, .slice q.f.A q.f.n q.f.c, .slice q.hA q.hn q.hc, .int .i64 q.order, .int .i64 q.limit], .agg #[.int .i64 x.frm, .int .i64 x.upto, .int .i64 x.tier, .int .i64 (j : Int), .int .i64 x.rows]] W (fun e w' => e = .returned (.bool r) ∧ Below W.heap.size W w') from by
          rw [hr]; exact elig_any m.dA m.mA m.dn m.dc m.mn m.mc m.D q m.p ⟨x.frm, x.upto, x.tier, (j : Int), x.rows⟩ W ((HSO.out.ch.keep (Nat.le_refl _) (bthen HBC.out hW)).u) (HM.out.pi.keep (Nat.le_refl _) (bthen HBC.out hW)))
        have HRL := Lib.hid (fun W (hW : Below wb.heap.size wb W) => show Calls Try.prog 13 #[.agg #[.slice m.dA m.dn m.dc, .slice m.mA m.mn m.mc], .agg #[.slice m.p.tA m.p.tn m.p.tc, .slice m.p.jA m.p.jn m.p.jc, .int .i64 m.p.hor], .agg #[.slice q.tA q.tn q.tc, .int .i64 q.frm, .int .i64 q.upto, .int .i64 q.every, .slice q.bA q.bn q.bc, .int .i64 q.f.op, .string q.f.dim, .string q.f.val, .slice q.f.A q.f.n q.f.c, .slice q.hA q.hn q.hc, .int .i64 q.order, .int .i64 q.limit], .agg #[.int .i64 x.frm, .int .i64 x.upto, .int .i64 x.tier, .int .i64 (j : Int), .int .i64 x.rows]] W (fun e w' => e = .returned (.bool r) ∧ Below W.heap.size W w') from by
          rw [hr]; exact relig_any m.dA m.mA m.dn m.dc m.mn m.mc m.D q m.p ⟨x.frm, x.upto, x.tier, (j : Int), x.rows⟩ z W ((HSO.out.ch.keep (Nat.le_refl _) (bthen HBC.out hW)).u) (HM.out.pi.keep (Nat.le_refl _) (bthen HBC.out hW)) hz1 hz2 HSO.out.sel.ev)
        clear hr hz1 hz2 HZ y0 y1 y2 y3 y4 d0 d1 d2 d3 d4 d5 d6 d7 d8 d9 d10 d11 c0 c1 c2 c3 c4 c5 c6 c7 c8 c9 c10 c11
        obtain ⟨⟨⟨d0, d1, d2, d3, d4, d5, d6, d7, d8, d9, d10, d11⟩, ⟨c0, c1, c2, c3, c4, c5, c6, c7, c8, c9, c10, c11⟩⟩, y0, y1, y2, y3, y4⟩ := HALL.out wk HBK.out
        go_upto_region 16 with fail
        go_region_held3 (fun W => (W.cell? ⟨G, 0, none⟩ = some (.slice m.dA m.dn m.dc) ∧ W.cell? ⟨G, 1, none⟩ = some (.slice m.mA m.mn m.mc) ∧ W.cell? ⟨G, 2, none⟩ = some (.slice m.p.tA m.p.tn m.p.tc) ∧ W.cell? ⟨G, 3, none⟩ = some (.slice m.p.jA m.p.jn m.p.jc) ∧ W.cell? ⟨G, 4, none⟩ = some (.int .i64 m.p.hor) ∧ W.cell? ⟨Q, 0, none⟩ = some (.slice q.tA q.tn q.tc) ∧ W.cell? ⟨Q, 1, none⟩ = some (.int .i64 q.frm) ∧ W.cell? ⟨Q, 2, none⟩ = some (.int .i64 q.upto) ∧ W.cell? ⟨Q, 3, none⟩ = some (.int .i64 q.every) ∧ W.cell? ⟨Q, 4, none⟩ = some (.slice q.bA q.bn q.bc) ∧ W.cell? ⟨Q, 5, none⟩ = some (.int .i64 q.f.op) ∧ W.cell? ⟨Q, 6, none⟩ = some (.string q.f.dim) ∧ W.cell? ⟨Q, 7, none⟩ = some (.string q.f.val) ∧ W.cell? ⟨Q, 8, none⟩ = some (.slice q.f.A q.f.n q.f.c) ∧ W.cell? ⟨Q, 9, none⟩ = some (.slice q.hA q.hn q.hc) ∧ W.cell? ⟨Q, 10, none⟩ = some (.int .i64 q.order) ∧ W.cell? ⟨Q, 11, none⟩ = some (.int .i64 q.limit) ∧ W.cell? ⟨Y, 0, none⟩ = some (.int .i64 x.frm) ∧ W.cell? ⟨Y, 1, none⟩ = some (.int .i64 x.upto) ∧ W.cell? ⟨Y, 2, none⟩ = some (.int .i64 x.tier) ∧ W.cell? ⟨Y, 3, none⟩ = some (.int .i64 (j : Int)) ∧ W.cell? ⟨Y, 4, none⟩ = some (.int .i64 x.rows)) ∧ Below wb.heap.size wb W)
          (first
            | (obtain ⟨⟨⟨x0, x1, x2, x3, x4, x5, x6, x7, x8, x9, x10, x11⟩, ⟨u0, u1, u2, u3, u4, u5, u6, u7, u8, u9, u10, u11⟩⟩, v0, v1, v2, v3, v4⟩ := HALL.out _ hby; exact ⟨⟨x0, x1, x2, x3, x4, u0, u1, u2, u3, u4, u5, u6, u7, u8, u9, u10, u11, v0, v1, v2, v3, v4⟩, hby⟩)
            | (obtain ⟨⟨⟨x0, x1, x2, x3, x4, x5, x6, x7, x8, x9, x10, x11⟩, ⟨u0, u1, u2, u3, u4, u5, u6, u7, u8, u9, u10, u11⟩⟩, v0, v1, v2, v3, v4⟩ := HALL.out _ hbz; exact ⟨⟨x0, x1, x2, x3, x4, u0, u1, u2, u3, u4, u5, u6, u7, u8, u9, u10, u11, v0, v1, v2, v3, v4⟩, hbz⟩)
            | (obtain ⟨⟨⟨x0, x1, x2, x3, x4, x5, x6, x7, x8, x9, x10, x11⟩, ⟨u0, u1, u2, u3, u4, u5, u6, u7, u8, u9, u10, u11⟩⟩, v0, v1, v2, v3, v4⟩ := HALL.out _ (below_drewN HBK.out 1); exact ⟨⟨x0, x1, x2, x3, x4, u0, u1, u2, u3, u4, u5, u6, u7, u8, u9, u10, u11, v0, v1, v2, v3, v4⟩, (below_drewN HBK.out 1)⟩))
          (first
            | (go_at_call 12; refine (HEL.out _ hbz).mono ?_; rintro e w8 ⟨rfl, hb⟩; have hby : Below wb.heap.size wb w8 := bthen hbz hb; clear hb)
            | (go_at_call 13; refine (HRL.out _ hbz).mono ?_; rintro e w8 ⟨rfl, hb⟩; have hby : Below wb.heap.size wb w8 := bthen hbz hb; clear hb)
            | (go_at_call 12; refine (HEL.out _ (below_drewN HBK.out 1)).mono ?_; rintro e w7 ⟨rfl, hb⟩; have hbz : Below wb.heap.size wb w7 := bthen (below_drewN HBK.out 1) hb; clear hb)
            | (go_at_call 13; refine (HRL.out _ (below_drewN HBK.out 1)).mono ?_; rintro e w7 ⟨rfl, hb⟩; have hbz : Below wb.heap.size wb w7 := bthen (below_drewN HBK.out 1) hb; clear hb))
        all_goals
          have HB9 := Lib.hid (bthen HBB.out hby)
          have hs4 := HSO.out.jn4
          go_wp2_with fail
          go_roundw
          case rel => exact ⟨k + 1, by omega, by first | exact HNX.out | (rw [← HNX.out]; go_num), HB9⟩
          case measure => have := HKV.out; (simp [intOf] <;> omega)
      · have heb : (yx == x.tier) = false := by simp [he]
        clear hyx he h0
        go_quiet (fail)
        have HB9 := Lib.hid (below_drewN HBB.out 1)
        go_wp2_with fail
        go_roundw
        case rel => exact ⟨k + 1, by omega, by first | exact HNX.out | (rw [← HNX.out]; go_num), Lib.hid (by first | exact HBB.out | exact below_drewN HBB.out _)⟩
        case measure => have := HKV.out; (simp [intOf] <;> omega)
end Go.Proofs.Ytgaallkdfcckpaa
