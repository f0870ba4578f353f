/- Least (5): the mathematics, the walk. -/
import Derived.Test.YtgaallkdfcckpaaSV
import Derived.Test.YtgaallkdfcckpaaSZ
import Derived.Test.YtgaallkdfcckpaaSO
import Derived.Test.YtgaallkdfcckpaaSP
namespace Go.Proofs.Ytgaallkdfcckpaa
open Go.RowKit Go.Maps Go.Lib Go.Shelf
set_option linter.unusedSimpArgs false
set_option linter.unusedVariables false
theorem atZ_at {L : List TZ} {i : Int} {z : TZ} (h : atZ L i = some z) : 0 ≤ i ∧ L[i.toNat]? = some z := by
  unfold atZ at h
  by_cases h0 : 0 ≤ i
  · rw [if_pos h0] at h; exact ⟨h0, h⟩
  · rw [if_neg h0] at h; cases h
theorem coB_tr {a b c : Int} (h1 : coB a b = true) (h2 : coB b c = true) : coB a c = true := by
  unfold coB at *
  simp only [Bool.and_eq_true, decide_eq_true_eq, beq_iff_eq] at *
  exact ⟨⟨h1.1.1, h2.1.2⟩, Int.emod_eq_zero_of_dvd (Int.dvd_trans (Int.dvd_of_emod_eq_zero h2.2) (Int.dvd_of_emod_eq_zero h1.2))⟩
theorem alB_tr {t a b : Int} (h1 : alB t a = true) (h2 : coB a b = true) : alB t b = true := by
  unfold alB coB at *
  simp only [Bool.and_eq_true, decide_eq_true_eq, beq_iff_eq] at *
  exact ⟨h2.1.2, Int.tmod_eq_zero_of_dvd (Int.dvd_trans (Int.dvd_of_emod_eq_zero h2.2) (Int.dvd_of_tmod_eq_zero h1.2))⟩
theorem elig_tr {U : List ByteArray} {ev a b : Int} {z y : TZ} (h : eligZ U ev z a b = true) (hc : coB z.g y.g = true) (hs : ∀ s ∈ z.D, s ∈ y.D) : eligZ U ev y a b = true := by
  unfold eligZ at *
  simp only [Bool.and_eq_true, Bool.or_eq_true, decide_eq_true_eq, Bool.not_eq_true', List.any_eq_false, Bool.not_eq_eq_eq_not, Bool.not_false, Bool.not_true] at *
  obtain ⟨⟨⟨h1, h2⟩, h3⟩, h4⟩ := h
  refine ⟨⟨⟨fun s hs1 => ?_, h2.imp id fun h => coB_tr h hc⟩, alB_tr h3 hc⟩, alB_tr h4 hc⟩
  have h5 : inT z.D s = true := by simpa using h1 s hs1
  have h6 : inT y.D s = true := inT_iff.2 (hs s (inT_iff.1 h5))
  simpa using h6
theorem el_parts {L : List ByteArray} {q : QZ} {p : PZ} {a b t j n : Int} (hp : PolF p) (h : elC L q p ⟨a, b, t, j, n⟩ = true) : (∀ n', elC L q p ⟨a, b, t, -1, n'⟩ = true) ∧ (j = -1 ∨ ∃ k : Nat, j = (k : Int) ∧ k < p.J.length) := by
  unfold elC eligC at h
  cases hc : cubC p t j with
  | none => simp only [hc] at h; cases h
  | some z =>
    simp only [hc] at h
    unfold cubC at hc
    obtain ⟨y, h1, h2⟩ := Option.bind_eq_some_iff.1 hc
    have hy : cubC p t (-1) = some y := by unfold cubC; rw [h1]; rfl
    by_cases hj : j = -1
    · rw [if_pos hj] at h2
      cases h2
      refine ⟨fun n' => ?_, .inl hj⟩
      unfold elC eligC
      simp only [hy]
      exact h
    · rw [if_neg hj] at h2
      obtain ⟨v, h3, h4⟩ := Option.bind_eq_some_iff.1 h2
      by_cases hv : v.x = t
      · rw [if_pos hv] at h4
        cases h4
        obtain ⟨h5, h6⟩ := atZ_at h3
        obtain ⟨h7, h8⟩ := List.getElem?_eq_some_iff.1 h6
        obtain ⟨k, hk, e1, e2, e3⟩ := hp.jt z (by rw [← h8]; exact List.getElem_mem _)
        refine ⟨fun n' => ?_, .inr ⟨j.toNat, by omega, h7⟩⟩
        unfold elC eligC
        simp only [hy]
        obtain ⟨h9, h10⟩ := atZ_at h1
        have hk2 : t.toNat = k := by omega
        rw [hk2, List.getElem?_eq_getElem hk] at h10
        cases h10
        exact elig_tr h e2 e3
      · rw [if_neg hv] at h4; cases h4
theorem cmpX_lt {a b : XZ} (h : cmpX a b < 0) : a.rows ≤ b.rows := by
  unfold cmpX orI cmpI at h
  by_cases h1 : a.rows < b.rows
  · omega
  · by_cases h2 : b.rows < a.rows
    · simp [h1, h2] at h
    · omega
theorem cmpX_ge {a b : XZ} (h : ¬ cmpX a b < 0) : b.rows ≤ a.rows := by
  unfold cmpX orI cmpI at h
  by_cases h1 : a.rows < b.rows
  · simp [h1] at h
  · omega
theorem minX_le : ∀ (L : List XZ) (m : XZ), ∀ y ∈ m :: L, (minX m L).rows ≤ y.rows
  | [], m, y, h => by
    rcases List.mem_cons.1 h with rfl | h
    · exact Int.le_refl _
    · cases h
  | z :: L, m, y, h => by
    have e : minX m (z :: L) = minX (if cmpX z m < 0 then z else m) L := rfl
    rw [e]
    by_cases hc : cmpX z m < 0
    · rw [if_pos hc]
      have h0 := minX_le L z z (List.mem_cons_self ..)
      rcases List.mem_cons.1 h with rfl | h
      · have := cmpX_lt hc; omega
      · exact minX_le L z y h
    · rw [if_neg hc]
      have h0 := minX_le L m m (List.mem_cons_self ..)
      rcases List.mem_cons.1 h with rfl | h
      · exact h0
      · rcases List.mem_cons.1 h with rfl | h
        · have := cmpX_ge hc; omega
        · exact minX_le L m y (List.mem_cons_of_mem _ h)
theorem rows_hit {p : PZ} {F : List SZ} (hF : FilesOk p F) {i : Nat} (h : i < F.length) : rowsS F F[i].tier F[i].proj = some F[i].rows := by
  unfold rowsS
  have hh : hitS F[i].tier F[i].proj F[i] = true := by simp [hitS]
  cases hf : F.find? (hitS F[i].tier F[i].proj) with
  | none =>
    have := List.find?_eq_none.1 hf F[i] (List.getElem_mem _)
    exact absurd hh this
  | some g =>
    have h1 := List.find?_some hf
    have h2 := List.mem_of_find?_eq_some hf
    obtain ⟨a, ha, rfl⟩ := List.getElem_of_mem h2
    simp only [hitS, Bool.and_eq_true, decide_eq_true_eq] at h1
    rcases Nat.lt_trichotomy a i with e | e | e
    · exact absurd h1 (hF.apart a i h e)
    · subst e; rfl
    · exact absurd ⟨h1.1.symm, h1.2.symm⟩ (hF.apart i a ha e)
theorem best_le {L : List ByteArray} {q : QZ} {p : PZ} {F : List SZ} (hp : PolF p) (hF : FilesOk p F) {x : XZ} (hx : x.proj = -1) {i : Nat} (h : i < F.length) (ht : F[i].tier = x.tier) {n : Int} (he : elC L q p ⟨x.frm, x.upto, x.tier, F[i].proj, n⟩ = true) {jn : Nat} (hj : jn = p.J.length) :
    (pickS (elC L q p) F jn x).rows ≤ F[i].rows := by
  have hm : (⟨x.frm, x.upto, x.tier, F[i].proj, F[i].rows⟩ : XZ) ∈ (candS F jn x).filter (elC L q p) := by
    refine List.mem_filter.2 ⟨?_, he⟩
    have hr := rows_hit hF h
    rw [ht] at hr
    unfold candS
    rcases (el_parts hp he).2 with e | ⟨k, e, hk⟩
    · rw [e] at hr ⊢
      rw [hr, hx]
      exact List.mem_cons_self ..
    · rw [e] at hr ⊢
      refine List.mem_cons_of_mem _ (List.mem_filterMap.2 ⟨k, List.mem_range.2 (by omega), ?_⟩)
      unfold candAt
      rw [hr]; rfl
  unfold pickS
  cases hf : (candS F jn x).filter (elC L q p) with
  | nil => rw [hf] at hm; cases hm
  | cons y l => rw [hf] at hm; exact minX_le l y _ hm
set_option maxRecDepth 100000 in
set_option maxHeartbeats 64000000 in
theorem least_walk (m : MZ) (q : QZ) (w : World) (hm : MIn w m) (hq : QIn w q) (hd1 : m.dn ≤ 1100000) (hd2 : m.mn ≤ 1100000) (hds : ∀ s ∈ m.D, s.size ≤ 9223372036854775807) (hms : ∀ s ∈ m.M, s.size ≤ 9223372036854775807) : Calls Try.prog 5 #[.agg #[.slice m.dA m.dn m.dc, .slice m.mA m.mn m.mc, .slice m.p.tA m.p.tn m.p.tc, .slice m.p.jA m.p.jn m.p.jc, .int .i64 m.p.hor, .int .i64 m.now, .slice m.eA m.en m.ec, .int .i64 m.cnt, .slice m.sA m.sn m.sc, .slice m.fA m.fn m.fc, .string m.jr, .int .i64 m.nxt], .agg #[.slice q.tA q.tn q.tc, .int .i64 q.frm, .int .i64 q.upto, .int .i64 q.every, .slice q.bA q.bn q.bc, .int .i64 q.f.op, .string q.f.dim, .string q.f.val, .slice q.f.A q.f.n q.f.c, .slice q.hA q.hn q.hc, .int .i64 q.order, .int .i64 q.limit]] w (fun e w' => e = .returned (.bool true) ∧ Below w.heap.size w w') := by
  obtain ⟨wa, hwa⟩ : ∃ wa, wa = w.alloc (.cells #[.slice m.dA m.dn m.dc, .slice m.mA m.mn m.mc, .slice m.p.tA m.p.tn m.p.tc, .slice m.p.jA m.p.jn m.p.jc, .int .i64 m.p.hor, .int .i64 m.now, .slice m.eA m.en m.ec, .int .i64 m.cnt, .slice m.sA m.sn m.sc, .slice m.fA m.fn m.fc, .string m.jr, .int .i64 m.nxt] 34) := ⟨_, rfl⟩
  obtain ⟨w1, hw1⟩ : ∃ w1, w1 = wa.alloc (.cells #[.slice q.tA q.tn q.tc, .int .i64 q.frm, .int .i64 q.upto, .int .i64 q.every, .slice q.bA q.bn q.bc, .int .i64 q.f.op, .string q.f.dim, .string q.f.val, .slice q.f.A q.f.n q.f.c, .slice q.hA q.hn q.hc, .int .i64 q.order, .int .i64 q.limit] 42) := ⟨_, rfl⟩
  have ba : Below w.heap.size w wa := by rw [hwa]; exact bpush (Below.refl _ _) _
  have bb : Below wa.heap.size wa w1 := by rw [hw1]; exact bpush (Below.refl _ _) _
  have kM : Blk wa w.heap.size 34 #[.slice m.dA m.dn m.dc, .slice m.mA m.mn m.mc, .slice m.p.tA m.p.tn m.p.tc, .slice m.p.jA m.p.jn m.p.jc, .int .i64 m.p.hor, .int .i64 m.now, .slice m.eA m.en m.ec, .int .i64 m.cnt, .slice m.sA m.sn m.sc, .slice m.fA m.fn m.fc, .string m.jr, .int .i64 m.nxt] := by rw [hwa]; exact Blk.new _ _ _
  have kQ : Blk w1 wa.heap.size 42 #[.slice q.tA q.tn q.tc, .int .i64 q.frm, .int .i64 q.upto, .int .i64 q.every, .slice q.bA q.bn q.bc, .int .i64 q.f.op, .string q.f.dim, .string q.f.val, .slice q.f.A q.f.n q.f.c, .slice q.hA q.hn q.hc, .int .i64 q.order, .int .i64 q.limit] := by rw [hw1]; exact Blk.new _ _ _
  have sza : wa.heap.size = w.heap.size + 1 := by rw [hwa]; simp
  rw [sza] at kQ
  have kM := kM.below bb
  have hb1 := bthen ba bb
  have HB1 := Lib.hid hb1
  obtain ⟨G, hGe⟩ : ∃ G, G = w.heap.size := ⟨_, rfl⟩
  obtain ⟨Q, hQe⟩ : ∃ Q, Q = w.heap.size + 1 := ⟨_, rfl⟩
  rw [← hGe] at kM
  rw [← hQe] at kQ
  have HKM := Lib.hid kM
  have HKQ := Lib.hid kQ
  have HM := Lib.hid (hm.keep (Nat.le_refl _) hb1)
  have HQ := Lib.hid (hq.keep (Nat.le_refl _) hb1)
  have HCE := Lib.hid (fun W (hW : Below w1.heap.size w1 W) => And.intro (m_cells (HKM.out.below hW)) (q_cells (HKQ.out.below hW)))
  have HW1 := Lib.hid (show w1 = (w.alloc (.cells #[.slice m.dA m.dn m.dc, .slice m.mA m.mn m.mc, .slice m.p.tA m.p.tn m.p.tc, .slice m.p.jA m.p.jn m.p.jc, .int .i64 m.p.hor, .int .i64 m.now, .slice m.eA m.en m.ec, .int .i64 m.cnt, .slice m.sA m.sn m.sc, .slice m.fA m.fn m.fc, .string m.jr, .int .i64 m.nxt] 34)).alloc (.cells #[.slice q.tA q.tn q.tc, .int .i64 q.frm, .int .i64 q.upto, .int .i64 q.every, .slice q.bA q.bn q.bc, .int .i64 q.f.op, .string q.f.dim, .string q.f.val, .slice q.f.A q.f.n q.f.c, .slice q.hA q.hn q.hc, .int .i64 q.order, .int .i64 q.limit] 42) by rw [hw1, hwa])
  have HE2 := Lib.hid (And.intro hGe hQe)
  have H7 := Lib.hid (fits7 m q w1 HM.out HQ.out hd1 hd2 hds hms)
  have HD1 := Lib.hid hd1
  obtain ⟨⟨d0, d1, d2, d3, d4, d5, d6, d7, d8, d9, d10, d11⟩, ⟨c0, c1, c2, c3, c4, c5, c6, c7, c8, c9, c10, c11⟩⟩ := HCE.out w1 (Below.refl _ _)
  clear hwa hw1 ba bb kM kQ sza hb1 hm hq hGe hQe hds hms hd1 hd2
  go_enter Try.func5, Try.ntmps5
  go_upto_region 1 with fail
  rw [← HW1.out, ← HE2.out.2, ← HE2.out.1]
  go_upto_region 2 with (go_at_call 7; refine H7.out.mono ?_; rintro e w2 ⟨⟨r, rfl, hr⟩, hb⟩; have HR := Lib.hid hr; have HB2 := Lib.hid hb; clear hb hr)
  clear d0 d1 d2 d3 d4 d5 d6 d7 d8 d9 d10 d11 c0 c1 c2 c3 c4 c5 c6 c7 c8 c9 c10 c11
  cases r with
  | false =>
    go_wp2_with (go_at_call 8; refine (alive_any _).mono ?_; rintro e w3 ⟨rfl, hb⟩; have HB3 := Lib.hid (bthen HB2.out hb); clear hb)
    go_ret
    exact ⟨rfl, bthen HB1.out HB3.out⟩
  | true =>
  have HF := Lib.hid (HR.out rfl)
  have HSO := Lib.hid (sel_ready HM.out HQ.out HF.out HD1.out)
  clear HR H7
  obtain ⟨⟨d0, d1, d2, d3, d4, d5, d6, d7, d8, d9, d10, d11⟩, ⟨c0, c1, c2, c3, c4, c5, c6, c7, c8, c9, c10, c11⟩⟩ := HCE.out w2 HB2.out
  obtain ⟨P, t, er, hP⟩ : ∃ P t er, chooseS (strS m.E q.frm q.upto m.en) (elC m.D q m.p) (pickS (elC m.D q m.p) m.F m.p.jn) = (P, t, er) := ⟨_, _, _, rfl⟩
  have HCC := Lib.hid (choose_cases hP)
  have H14 := Lib.hid (fun W (hW : Below w1.heap.size w1 W) => choose_any m.dA m.mA m.dn m.dc m.mn m.mc m.D q m.p m.eA m.en m.ec m.E m.fA m.fn m.fc m.F W (HSO.out.ch.keep (Nat.le_refl _) hW) P t er hP)
  clear hP
  obtain ⟨S, hS⟩ : ∃ S, S = strS m.E q.frm q.upto m.en := ⟨_, rfl⟩
  have HS := Lib.hid hS
  have H11 := Lib.hid (show Calls Try.prog 11 #[.agg #[.slice m.p.tA m.p.tn m.p.tc, .slice m.p.jA m.p.jn m.p.jc, .int .i64 m.p.hor], .slice m.eA m.en m.ec, .agg #[.slice q.tA q.tn q.tc, .int .i64 q.frm, .int .i64 q.upto, .int .i64 q.every, .slice q.bA q.bn q.bc, .int .i64 q.f.op, .string q.f.dim, .string q.f.val, .slice q.f.A q.f.n q.f.c, .slice q.hA q.hn q.hc, .int .i64 q.order, .int .i64 q.limit]] w2 (PlansP w2 S) by rw [HS.out]; exact str_any m.p q m.eA m.en m.ec m.E w2 (HSO.out.ch.keep (Nat.le_refl _) HB2.out).e HSO.out.ch.el HSO.out.ch.et HSO.out.ch.e20)
  have HSN := Lib.hid (show S.length ≤ 4 by rw [HS.out]; have := strS_len m.E q.frm q.upto m.en; have := HSO.out.en4; omega)
  have HXS := Lib.hid (show ∀ (k : Nat) (h : k < S.length), S[k].proj = -1 from fun k h => by
    have h1 : S[k] ∈ strS m.E q.frm q.upto m.en := by rw [← HS.out]; exact List.getElem_mem _
    obtain ⟨i, -, hxe, -⟩ := strS_mem h1
    rw [hxe]; rfl)
  have HTI := Lib.hid (show ∀ (i j : Nat) (hj : j < S.length) (hij : i < j), (S[i]'(by omega)).tier < S[j].tier from fun i j hj hij => by
    have h2 := strS_tiers m.E q.frm q.upto m.en i j (by rw [← HS.out]; exact hj) hij
    simpa only [← HS.out] using h2)
  have HFL := Lib.hid (show m.fn = m.F.length ∧ m.F.length ≤ 40 from ⟨HM.out.fl, HF.out.r.files.len⟩)
  have HJN := Lib.hid (show m.p.jn = m.p.J.length from HM.out.pi.j.len)
  rw [← hS] at HCC
  clear hS
  go_upto_region 5 with (go_at_call 11; refine H11.out.mono ?_; rintro e w3 ⟨v, rfl, ho, hb⟩; obtain ⟨A, c, rfl, hr, -, -⟩ := own_sliceX (L := S) ho; have HRA := Lib.hid hr; have HB3 := Lib.hid (bthen HB2.out hb); have HB23 := Lib.hid hb; clear hb ho hr)
  clear d0 d1 d2 d3 d4 d5 d6 d7 d8 d9 d10 d11 c0 c1 c2 c3 c4 c5 c6 c7 c8 c9 c10 c11
  obtain ⟨⟨d0, d1, d2, d3, d4, d5, d6, d7, d8, d9, d10, d11⟩, ⟨c0, c1, c2, c3, c4, c5, c6, c7, c8, c9, c10, c11⟩⟩ := HCE.out w3 HB3.out
  have H14' := Lib.hid (H14.out w3 HB3.out)
  go_upto_region 7 with (go_at_call 14; refine H14'.out.mono ?_; rintro e w4 ⟨XA, n6, k6, rfl, hn6, hr, hb⟩; have HRX := Lib.hid hr; have HN6 := Lib.hid hn6; have HB34 := Lib.hid hb; have HB4 := Lib.hid (bthen HB3.out hb); clear hr hb hn6)
  clear d0 d1 d2 d3 d4 d5 d6 d7 d8 d9 d10 d11 c0 c1 c2 c3 c4 c5 c6 c7 c8 c9 c10 c11 H14 H14' H11
  rcases HCC.out with ⟨rfl, hP0, hE⟩ | ⟨rfl, hPm, -, hE⟩
  · have HAE := Lib.hid hE
    clear HCC hP0 hE
    go_loopw [10] (fun vi wr => ∃ i : Nat, i ≤ S.length ∧ vi = .int .i64 i ∧ Hid (Below w4.heap.size w4 wr)) (fun vi _ => S.length - (intOf vi).toNat)
    case atStart => exact ⟨0, by omega, rfl, Lib.hid (Below.refl _ _)⟩
    case round =>
      obtain ⟨i, hi, rfl, HBA⟩ := hrel
      obtain ⟨wo, rfl⟩ : ∃ wo : World, wo = wr := ⟨_, rfl⟩
      have HB := Lib.hid (bthen HB4.out HBA.out)
      by_cases hlt : i < S.length
      case neg =>
        obtain rfl : i = S.length := by omega
        have hge : ¬ (S.length : Int) < (S.length : Int) := by omega
        clear hlt
        go_wp2_with (go_at_call 8; refine (alive_any _).mono ?_; rintro e w8 ⟨rfl, hb⟩; have HB8 := Lib.hid hb; clear hb)
        go_ret
        exact ⟨rfl, bthen HB1.out (bthen HB.out HB8.out)⟩
      case pos =>
      have hs4 := HSN.out
      have hii : (i : Int) < (S.length : Int) := by omega
      have hi0 : (0 : Int) ≤ (i : Int) := by omega
      obtain ⟨b, off, hAe, q0, q1, q2, q3, q4⟩ := x_cells (HRA.out.keep (Nat.le_refl _) (bthen HB34.out HBA.out)) hlt
      rw [HXS.out i hlt] at q3
      obtain ⟨x, hx⟩ : ∃ x, x = S[i] := ⟨_, rfl⟩
      rw [← hx] at q0 q1 q2 q4
      have hxp : x.proj = -1 := by rw [hx]; exact HXS.out i hlt
      have HXP := Lib.hid hxp
      obtain ⟨r, hr⟩ : ∃ r, r = elC m.D q m.p ⟨x.frm, x.upto, x.tier, -1, x.rows⟩ := ⟨_, rfl⟩
      have HRV := Lib.hid hr
      have hxe : (⟨x.frm, x.upto, x.tier, -1, x.rows⟩ : XZ) = x := by rw [← hxp]
      have HXT := Lib.hid (show (r = false → t ≤ x.tier) ∧ (r = true → t ≠ x.tier) from by
        obtain ⟨k, hk, h1, h2, h3⟩ := HAE.out
        refine ⟨fun hf => ?_, fun hf e => ?_⟩
        · rw [hr, hxe, hx] at hf
          rw [h2, hx]
          rcases Nat.lt_trichotomy k i with e | e | e
          · have := HTI.out k i hlt e; omega
          · subst e; exact Int.le_refl _
          · rw [h3 i e] at hf; cases hf
        · rw [hr, hxe, hx] at hf
          rw [h2, hx] at e
          rcases Nat.lt_trichotomy k i with e2 | e2 | e2
          · have := HTI.out k i hlt e2; omega
          · subst e2; rw [h1] at hf; cases hf
          · have := HTI.out i k hk e2; omega)
      have HOWN := Lib.hid (show ∀ (j n : Int), elC m.D q m.p ⟨x.frm, x.upto, x.tier, j, n⟩ = true → r = true from fun j n h => by rw [hr]; exact (el_parts HF.out.r.pol h).1 _)
      have HCX := Lib.hid (fun W (hW : Below wo.heap.size wo W) => And.intro (HCE.out W (bthen HB.out hW)) (And.intro (cell_on hW q0) (And.intro (cell_on hW q1) (And.intro (cell_on hW q2) (And.intro (cell_on hW q3) (cell_on hW q4))))))
      have HEL := Lib.hid (fun W (hW : Below wo.heap.size wo W) => show Calls Try.prog 12 #[.agg #[.slice m.dA m.dn m.dc, .slice m.mA m.mn m.mc], .agg #[.slice m.p.tA m.p.tn m.p.tc, .slice m.p.jA m.p.jn m.p.jc, .int .i64 m.p.hor], .agg #[.slice q.tA q.tn q.tc, .int .i64 q.frm, .int .i64 q.upto, .int .i64 q.every, .slice q.bA q.bn q.bc, .int .i64 q.f.op, .string q.f.dim, .string q.f.val, .slice q.f.A q.f.n q.f.c, .slice q.hA q.hn q.hc, .int .i64 q.order, .int .i64 q.limit], .agg #[.int .i64 x.frm, .int .i64 x.upto, .int .i64 x.tier, .int .i64 (-1), .int .i64 x.rows]] W (fun e w' => e = .returned (.bool r) ∧ Below W.heap.size W w') from by
        rw [hr]; exact elig_any m.dA m.mA m.dn m.dc m.mn m.mc m.D q m.p ⟨x.frm, x.upto, x.tier, -1, x.rows⟩ W ((HSO.out.ch.keep (Nat.le_refl _) (bthen HB.out hW)).u) (HM.out.pi.keep (Nat.le_refl _) (bthen HB.out hW)))
      have HIL := Lib.hid hlt
      subst hAe
      clear hlt hx hxp hxe q0 q1 q2 q3 q4 
      skip
      clear hr
      obtain ⟨⟨⟨d0, d1, d2, d3, d4, d5, d6, d7, d8, d9, d10, d11⟩, ⟨c0, c1, c2, c3, c4, c5, c6, c7, c8, c9, c10, c11⟩⟩, q0, q1, q2, q3, q4⟩ := HCX.out wo (Below.refl _ _)
      go_upto_region 9 with fail
      go_region_held3 (fun W => (W.cell? ⟨G, 0, none⟩ = some (.slice m.dA m.dn m.dc) ∧ W.cell? ⟨G, 1, none⟩ = some (.slice m.mA m.mn m.mc) ∧ W.cell? ⟨G, 2, none⟩ = some (.slice m.p.tA m.p.tn m.p.tc) ∧ W.cell? ⟨G, 3, none⟩ = some (.slice m.p.jA m.p.jn m.p.jc) ∧ W.cell? ⟨G, 4, none⟩ = some (.int .i64 m.p.hor) ∧ W.cell? ⟨Q, 0, none⟩ = some (.slice q.tA q.tn q.tc) ∧ W.cell? ⟨Q, 1, none⟩ = some (.int .i64 q.frm) ∧ W.cell? ⟨Q, 2, none⟩ = some (.int .i64 q.upto) ∧ W.cell? ⟨Q, 3, none⟩ = some (.int .i64 q.every) ∧ W.cell? ⟨Q, 4, none⟩ = some (.slice q.bA q.bn q.bc) ∧ W.cell? ⟨Q, 5, none⟩ = some (.int .i64 q.f.op) ∧ W.cell? ⟨Q, 6, none⟩ = some (.string q.f.dim) ∧ W.cell? ⟨Q, 7, none⟩ = some (.string q.f.val) ∧ W.cell? ⟨Q, 8, none⟩ = some (.slice q.f.A q.f.n q.f.c) ∧ W.cell? ⟨Q, 9, none⟩ = some (.slice q.hA q.hn q.hc) ∧ W.cell? ⟨Q, 10, none⟩ = some (.int .i64 q.order) ∧ W.cell? ⟨Q, 11, none⟩ = some (.int .i64 q.limit) ∧ W.cell? ⟨b, off + i * 5, none⟩ = some (.int .i64 x.frm) ∧ W.cell? ⟨b, off + i * 5 + 1, none⟩ = some (.int .i64 x.upto) ∧ W.cell? ⟨b, off + i * 5 + 2, none⟩ = some (.int .i64 x.tier) ∧ W.cell? ⟨b, off + i * 5 + 3, none⟩ = some (.int .i64 (-1)) ∧ W.cell? ⟨b, off + i * 5 + 4, none⟩ = some (.int .i64 x.rows)) ∧ Below wo.heap.size wo W)
        (first
          | (obtain ⟨⟨⟨x0, x1, x2, x3, x4, x5, x6, x7, x8, x9, x10, x11⟩, ⟨u0, u1, u2, u3, u4, u5, u6, u7, u8, u9, u10, u11⟩⟩, v0, v1, v2, v3, v4⟩ := HCX.out _ hby; exact ⟨⟨x0, x1, x2, x3, x4, u0, u1, u2, u3, u4, u5, u6, u7, u8, u9, u10, u11, v0, v1, v2, v3, v4⟩, hby⟩)
          | (obtain ⟨⟨⟨x0, x1, x2, x3, x4, x5, x6, x7, x8, x9, x10, x11⟩, ⟨u0, u1, u2, u3, u4, u5, u6, u7, u8, u9, u10, u11⟩⟩, v0, v1, v2, v3, v4⟩ := HCX.out _ (below_drewN (Below.refl _ _) 1); exact ⟨⟨x0, x1, x2, x3, x4, u0, u1, u2, u3, u4, u5, u6, u7, u8, u9, u10, u11, v0, v1, v2, v3, v4⟩, below_drewN (Below.refl _ _) 1⟩))
        (first
          | (go_at_call 12; refine (HEL.out _ (below_drewN (Below.refl _ _) 1)).mono ?_; rintro e w7 ⟨rfl, hb⟩; have hby : Below wo.heap.size wo w7 := bthen (below_drewN (Below.refl _ _) 1) hb; clear hb))
      have HB7 := Lib.hid hby
      clear hby q0 q1 q2 q3 q4 d0 d1 d2 d3 d4 d5 d6 d7 d8 d9 d10 d11 c0 c1 c2 c3 c4 c5 c6 c7 c8 c9 c10 c11
      go_upto_region 11 with fail
      go_loopw [12] (fun vi wr => ∃ j : Nat, j ≤ m.fn ∧ vi = .int .i64 j ∧ Hid (Below w7.heap.size w7 wr)) (fun vi _ => m.fn - (intOf vi).toNat)
      case atStart => exact ⟨0, by omega, rfl, Lib.hid (Below.refl _ _)⟩
      case round =>
        obtain ⟨j, hj, rfl, HBI⟩ := hrel
        obtain ⟨wi, rfl⟩ : ∃ wi : World, wi = wr := ⟨_, rfl⟩
        have HBJ := Lib.hid (bthen HB7.out HBI.out)
        obtain ⟨⟨⟨d0, d1, d2, d3, d4, d5, d6, d7, d8, d9, d10, d11⟩, ⟨c0, c1, c2, c3, c4, c5, c6, c7, c8, c9, c10, c11⟩⟩, q0, q1, q2, q3, q4⟩ := HCX.out wi HBJ.out
        have hf40 : m.fn ≤ 40 := by have := HFL.out; omega
        by_cases hlj : j < m.fn
        case neg =>
          obtain rfl : j = m.fn := by omega
          have hge : ¬ (m.fn : Int) < (m.fn : Int) := by omega
          have HIL2 := HIL.out
          have HB9 := Lib.hid (bthen HBA.out HBJ.out)
          clear hlj
          cases r with
          | true =>
            go_wp2_with fail
            go_roundw
            case rel => exact ⟨i + 1, by omega, by go_num, HB9⟩
            case measure => (simp [intOf] <;> omega)
          | false =>
            have htx : decide (x.tier < t) = false := by have := HXT.out.1 rfl; simp; omega
            go_wp2_with fail
            go_roundw
            case rel => exact ⟨i + 1, by omega, by go_num, HB9⟩
            case measure => (simp [intOf] <;> omega)
        case pos =>
        have hji : (j : Int) < (m.fn : Int) := by omega
        have hj0 : (0 : Int) ≤ (j : Int) := by omega
        have hjz : j < m.F.length := by have := HFL.out; omega
        obtain ⟨fb, fo, hFe, f0, f1, f2, f3⟩ := sz_cells (HM.out.f.keep (Nat.le_refl _) (bthen HB.out HBJ.out)) hjz
        obtain ⟨f, hf⟩ : ∃ f, f = m.F[j] := ⟨_, rfl⟩
        rw [← hf] at f0 f1 f2 f3
        rw [hFe] at d9
        obtain ⟨wb, hwb⟩ : ∃ wb, wb = wi.alloc (.cells #[.string f.name, .int .i64 f.tier, .int .i64 f.proj, .int .i64 f.rows] 57) := ⟨_, rfl⟩
        have hbb : Below wi.heap.size wi wb := by rw [hwb]; exact bpush (Below.refl _ _) _
        have hkb : Blk wb wi.heap.size 57 #[.string f.name, .int .i64 f.tier, .int .i64 f.proj, .int .i64 f.rows] := by rw [hwb]; exact Blk.new _ _ _
        have HBB := Lib.hid (bthen HBJ.out hbb)
        have HBI2 := Lib.hid (bthen HBI.out hbb)
        have HWB := Lib.hid hwb
        obtain ⟨Y1, hY⟩ : ∃ Y, Y = wi.heap.size := ⟨_, rfl⟩
        rw [← hY] at hkb
        have HYE := Lib.hid hY
        have HKB := Lib.hid (fun W (hW : Below wb.heap.size wb W) => show W.cell? ⟨Y1, 1, none⟩ = some (.int .i64 f.tier) ∧ W.cell? ⟨Y1, 2, none⟩ = some (.int .i64 f.proj) ∧ W.cell? ⟨Y1, 3, none⟩ = some (.int .i64 f.rows) from ⟨by rw [(hkb.below hW).cell 1]; rfl, by rw [(hkb.below hW).cell 2]; rfl, by rw [(hkb.below hW).cell 3]; rfl⟩)
        obtain ⟨r2, hr2⟩ : ∃ r, r = elC m.D q m.p ⟨x.frm, x.upto, x.tier, f.proj, x.rows⟩ := ⟨_, rfl⟩
        have HE2 := Lib.hid (fun W (hW : Below wb.heap.size wb W) => show Calls Try.prog 12 #[.agg #[.slice m.dA m.dn m.dc, .slice m.mA m.mn m.mc], .agg #[.slice m.p.tA m.p.tn m.p.tc, .slice m.p.jA m.p.jn m.p.jc, .int .i64 m.p.hor], .agg #[.slice q.tA q.tn q.tc, .int .i64 q.frm, .int .i64 q.upto, .int .i64 q.every, .slice q.bA q.bn q.bc, .int .i64 q.f.op, .string q.f.dim, .string q.f.val, .slice q.f.A q.f.n q.f.c, .slice q.hA q.hn q.hc, .int .i64 q.order, .int .i64 q.limit], .agg #[.int .i64 x.frm, .int .i64 x.upto, .int .i64 x.tier, .int .i64 f.proj, .int .i64 x.rows]] W (fun e w' => e = .returned (.bool r2) ∧ Below W.heap.size W w') from by
          rw [hr2]; exact elig_any m.dA m.mA m.dn m.dc m.mn m.mc m.D q m.p ⟨x.frm, x.upto, x.tier, f.proj, x.rows⟩ W ((HSO.out.ch.keep (Nat.le_refl _) (bthen HB.out (bthen HBB.out hW))).u) (HM.out.pi.keep (Nat.le_refl _) (bthen HB.out (bthen HBB.out hW))))
        have HR2 := Lib.hid (show r2 = true → r = true from fun h => HOWN.out f.proj x.rows (by rw [← hr2]; exact h))
        clear hwb hbb hkb hY hr2 hf
        go_upto_region 14 with fail
        rw [← HWB.out]
        try rw [← HYE.out]
        clear f0 f1 f2 f3 hFe q0 q1 q2 q3 q4 d0 d1 d2 d3 d4 d5 d6 d7 d8 d9 d10 d11 c0 c1 c2 c3 c4 c5 c6 c7 c8 c9 c10 c11
        obtain ⟨⟨⟨d0, d1, d2, d3, d4, d5, d6, d7, d8, d9, d10, d11⟩, ⟨c0, c1, c2, c3, c4, c5, c6, c7, c8, c9, c10, c11⟩⟩, q0, q1, q2, q3, q4⟩ := HCX.out wb HBB.out
        obtain ⟨k1, k2, k3⟩ := HKB.out wb (Below.refl _ _)
        by_cases he : f.tier = x.tier
        case neg =>
          have heb : (f.tier == x.tier) = false := by simp [he]
          clear he
          go_quiet (fail)
          go_wp2_with fail
          go_roundw
          case rel => exact ⟨j + 1, by omega, by go_num, Lib.hid (below_drewN HBI2.out _)⟩
          case measure => (simp [intOf] <;> omega)
        case pos =>
        rw [he] at k1
        have HTE := Lib.hid he
        clear he
        go_quiet (fail)
        obtain ⟨wk, hwk⟩ : ∃ wk, wk = wb.drewN nq := ⟨_, rfl⟩
        have hbk : Below wb.heap.size wb wk := by rw [hwk]; exact below_drewN (Below.refl _ _) _
        rw [← hwk]
        obtain ⟨wl, hwl⟩ : ∃ wl, wl = wk.alloc (.cells #[.int .i64 x.frm, .int .i64 x.upto, .int .i64 x.tier, .int .i64 f.proj, .int .i64 x.rows] 49) := ⟨_, rfl⟩
        have hbl : Below wk.heap.size wk wl := by rw [hwl]; exact bpush (Below.refl _ _) _
        have hkl : Blk wl wk.heap.size 49 #[.int .i64 x.frm, .int .i64 x.upto, .int .i64 x.tier, .int .i64 f.proj, .int .i64 x.rows] := by rw [hwl]; exact Blk.new _ _ _
        have HBK := Lib.hid hbk
        have HBL := Lib.hid (bthen hbk hbl)
        have HWL := Lib.hid hwl
        obtain ⟨Y2, hY2⟩ : ∃ Y, Y = wk.heap.size := ⟨_, rfl⟩
        rw [← hY2] at hkl
        have HYE2 := Lib.hid hY2
        have HKL := Lib.hid hkl
        clear hwk hbk hwl hbl hkl hY2 q0 q1 q2 q3 q4 k1 k2 k3 d0 d1 d2 d3 d4 d5 d6 d7 d8 d9 d10 d11 c0 c1 c2 c3 c4 c5 c6 c7 c8 c9 c10 c11
        obtain ⟨⟨⟨d0, d1, d2, d3, d4, d5, d6, d7, d8, d9, d10, d11⟩, ⟨c0, c1, c2, c3, c4, c5, c6, c7, c8, c9, c10, c11⟩⟩, q0, q1, q2, q3, q4⟩ := HCX.out wk (bthen HBB.out HBK.out)
        obtain ⟨k1, k2, k3⟩ := HKB.out wk HBK.out
        have kx : (wk.alloc (.cells #[.int .i64 x.frm, .int .i64 x.upto, .int .i64 x.tier, .int .i64 (-1), .int .i64 x.rows] 49)).cell? ⟨Y1, 2, none⟩ = some (.int .i64 f.proj) := cell_on (bpush (Below.refl _ _) _) k2
        go_upto_region 17 with fail
        clear kx
        rw [← HWL.out]
        try rw [← HYE2.out]
        clear q0 q1 q2 q3 q4 k1 k2 k3 d0 d1 d2 d3 d4 d5 d6 d7 d8 d9 d10 d11 c0 c1 c2 c3 c4 c5 c6 c7 c8 c9 c10 c11
        obtain ⟨⟨⟨d0, d1, d2, d3, d4, d5, d6, d7, d8, d9, d10, d11⟩, ⟨c0, c1, c2, c3, c4, c5, c6, c7, c8, c9, c10, c11⟩⟩, q0, q1, q2, q3, q4⟩ := HCX.out wl (bthen HBB.out HBL.out)
        obtain ⟨y0, y1, y2, y3, y4⟩ := xz_cells (x := ⟨x.frm, x.upto, x.tier, f.proj, x.rows⟩) HKL.out
        have HE2' := Lib.hid (HE2.out wl HBL.out)
        go_upto_region 18 with (go_at_call 12; refine HE2'.out.mono ?_; rintro e w8 ⟨rfl, hb⟩; have HB8 := Lib.hid (bthen HBL.out hb); clear hb)
        clear q0 q1 q2 q3 q4 y0 y1 y2 y3 y4 d0 d1 d2 d3 d4 d5 d6 d7 d8 d9 d10 d11 c0 c1 c2 c3 c4 c5 c6 c7 c8 c9 c10 c11
        obtain ⟨k1, k2, k3⟩ := HKB.out w8 HB8.out
        rw [HTE.out] at k1
        have HB9 := Lib.hid (below_drewN (bthen HBI2.out HB8.out))
        cases r2 with
        | false =>
          go_quiet (fail)
          go_wp2_with fail
          go_roundw
          case rel => exact ⟨j + 1, by omega, by go_num, Lib.hid (HB9.out _)⟩
          case measure => (simp [intOf] <;> omega)
        | true =>
          have hrr := HR2.out rfl
          subst hrr
          have hte : (x.tier == t) = false := by have := HXT.out.2 rfl; simp; omega
          go_quiet (fail)
          go_wp2_with fail
          go_roundw
          case rel => exact ⟨j + 1, by omega, by go_num, Lib.hid (HB9.out _)⟩
          case measure => (simp [intOf] <;> omega)

  · have HAE := Lib.hid hE
    have HPM := Lib.hid hPm
    have HPN := Lib.hid (show P.length = S.length by rw [hPm, List.length_map])
    obtain rfl : n6 = S.length := by rw [HN6.out, HPN.out]
    clear HCC hPm hE
    go_loopw [10] (fun vi wr => ∃ i : Nat, i ≤ S.length ∧ vi = .int .i64 i ∧ Hid (Below w4.heap.size w4 wr)) (fun vi _ => S.length - (intOf vi).toNat)
    case atStart => exact ⟨0, by omega, rfl, Lib.hid (Below.refl _ _)⟩
    case round =>
      obtain ⟨i, hi, rfl, HBA⟩ := hrel
      obtain ⟨wo, rfl⟩ : ∃ wo : World, wo = wr := ⟨_, rfl⟩
      have HB := Lib.hid (bthen HB4.out HBA.out)
      by_cases hlt : i < S.length
      case neg =>
        obtain rfl : i = S.length := by omega
        have hge : ¬ (S.length : Int) < (S.length : Int) := by omega
        clear hlt
        go_wp2_with (go_at_call 8; refine (alive_any _).mono ?_; rintro e w8 ⟨rfl, hb⟩; have HB8 := Lib.hid hb; clear hb)
        go_ret
        exact ⟨rfl, bthen HB1.out (bthen HB.out HB8.out)⟩
      case pos =>
      have hs4 := HSN.out
      have hii : (i : Int) < (S.length : Int) := by omega
      have hi0 : (0 : Int) ≤ (i : Int) := by omega
      obtain ⟨b, off, hAe, q0, q1, q2, q3, q4⟩ := x_cells (HRA.out.keep (Nat.le_refl _) (bthen HB34.out HBA.out)) hlt
      rw [HXS.out i hlt] at q3
      obtain ⟨x, hx⟩ : ∃ x, x = S[i] := ⟨_, rfl⟩
      rw [← hx] at q0 q1 q2 q4
      have hxp : x.proj = -1 := by rw [hx]; exact HXS.out i hlt
      have HXP := Lib.hid hxp
      obtain ⟨r, hr⟩ : ∃ r, r = elC m.D q m.p ⟨x.frm, x.upto, x.tier, -1, x.rows⟩ := ⟨_, rfl⟩
      have HRV := Lib.hid hr
      have hxe : (⟨x.frm, x.upto, x.tier, -1, x.rows⟩ : XZ) = x := by rw [← hxp]
      have hrt : r = true := by rw [hr, hxe]; exact HAE.out x (by rw [hx]; exact List.getElem_mem _)
      obtain ⟨bX, oX, hAX, s0, s1, s2, s3, s4⟩ := x_cells (HRX.out.keep (Nat.le_refl _) HBA.out) (show i < P.length by have := HPN.out; omega)
      have hpk : P[i]'(by have := HPN.out; omega) = pickS (elC m.D q m.p) m.F m.p.jn x := by rw [hx]; simp only [HPM.out, List.getElem_map]
      rw [hpk] at s4
      obtain ⟨rx, hrx⟩ : ∃ rx, rx = (pickS (elC m.D q m.p) m.F m.p.jn x).rows := ⟨_, rfl⟩
      rw [← hrx] at s4
      have HPR := Lib.hid (show ∀ (j : Nat) (h : j < m.F.length), m.F[j].tier = x.tier → elC m.D q m.p ⟨x.frm, x.upto, x.tier, m.F[j].proj, x.rows⟩ = true → rx ≤ m.F[j].rows from fun j h h1 h2 => by
        rw [hrx]; exact best_le HF.out.r.pol HF.out.r.files hxp h h1 h2 HJN.out)
      have HXC := Lib.hid (fun W (hW : Below wo.heap.size wo W) => cell_on hW s4)
      have HOWN := Lib.hid (show ∀ (j n : Int), elC m.D q m.p ⟨x.frm, x.upto, x.tier, j, n⟩ = true → r = true from fun j n h => by rw [hr]; exact (el_parts HF.out.r.pol h).1 _)
      have HCX := Lib.hid (fun W (hW : Below wo.heap.size wo W) => And.intro (HCE.out W (bthen HB.out hW)) (And.intro (cell_on hW q0) (And.intro (cell_on hW q1) (And.intro (cell_on hW q2) (And.intro (cell_on hW q3) (cell_on hW q4))))))
      have HEL := Lib.hid (fun W (hW : Below wo.heap.size wo W) => show Calls Try.prog 12 #[.agg #[.slice m.dA m.dn m.dc, .slice m.mA m.mn m.mc], .agg #[.slice m.p.tA m.p.tn m.p.tc, .slice m.p.jA m.p.jn m.p.jc, .int .i64 m.p.hor], .agg #[.slice q.tA q.tn q.tc, .int .i64 q.frm, .int .i64 q.upto, .int .i64 q.every, .slice q.bA q.bn q.bc, .int .i64 q.f.op, .string q.f.dim, .string q.f.val, .slice q.f.A q.f.n q.f.c, .slice q.hA q.hn q.hc, .int .i64 q.order, .int .i64 q.limit], .agg #[.int .i64 x.frm, .int .i64 x.upto, .int .i64 x.tier, .int .i64 (-1), .int .i64 x.rows]] W (fun e w' => e = .returned (.bool r) ∧ Below W.heap.size W w') from by
        rw [hr]; exact elig_any m.dA m.mA m.dn m.dc m.mn m.mc m.D q m.p ⟨x.frm, x.upto, x.tier, -1, x.rows⟩ W ((HSO.out.ch.keep (Nat.le_refl _) (bthen HB.out hW)).u) (HM.out.pi.keep (Nat.le_refl _) (bthen HB.out hW)))
      have HIL := Lib.hid hlt
      subst hAe
      subst hAX
      clear hlt hx hxp hxe q0 q1 q2 q3 q4 s0 s1 s2 s3 s4 hpk hrx
      subst hrt
      clear hr
      obtain ⟨⟨⟨d0, d1, d2, d3, d4, d5, d6, d7, d8, d9, d10, d11⟩, ⟨c0, c1, c2, c3, c4, c5, c6, c7, c8, c9, c10, c11⟩⟩, q0, q1, q2, q3, q4⟩ := HCX.out wo (Below.refl _ _)
      go_upto_region 9 with fail
      go_region_held3 (fun W => (W.cell? ⟨G, 0, none⟩ = some (.slice m.dA m.dn m.dc) ∧ W.cell? ⟨G, 1, none⟩ = some (.slice m.mA m.mn m.mc) ∧ W.cell? ⟨G, 2, none⟩ = some (.slice m.p.tA m.p.tn m.p.tc) ∧ W.cell? ⟨G, 3, none⟩ = some (.slice m.p.jA m.p.jn m.p.jc) ∧ W.cell? ⟨G, 4, none⟩ = some (.int .i64 m.p.hor) ∧ W.cell? ⟨Q, 0, none⟩ = some (.slice q.tA q.tn q.tc) ∧ W.cell? ⟨Q, 1, none⟩ = some (.int .i64 q.frm) ∧ W.cell? ⟨Q, 2, none⟩ = some (.int .i64 q.upto) ∧ W.cell? ⟨Q, 3, none⟩ = some (.int .i64 q.every) ∧ W.cell? ⟨Q, 4, none⟩ = some (.slice q.bA q.bn q.bc) ∧ W.cell? ⟨Q, 5, none⟩ = some (.int .i64 q.f.op) ∧ W.cell? ⟨Q, 6, none⟩ = some (.string q.f.dim) ∧ W.cell? ⟨Q, 7, none⟩ = some (.string q.f.val) ∧ W.cell? ⟨Q, 8, none⟩ = some (.slice q.f.A q.f.n q.f.c) ∧ W.cell? ⟨Q, 9, none⟩ = some (.slice q.hA q.hn q.hc) ∧ W.cell? ⟨Q, 10, none⟩ = some (.int .i64 q.order) ∧ W.cell? ⟨Q, 11, none⟩ = some (.int .i64 q.limit) ∧ W.cell? ⟨b, off + i * 5, none⟩ = some (.int .i64 x.frm) ∧ W.cell? ⟨b, off + i * 5 + 1, none⟩ = some (.int .i64 x.upto) ∧ W.cell? ⟨b, off + i * 5 + 2, none⟩ = some (.int .i64 x.tier) ∧ W.cell? ⟨b, off + i * 5 + 3, none⟩ = some (.int .i64 (-1)) ∧ W.cell? ⟨b, off + i * 5 + 4, none⟩ = some (.int .i64 x.rows)) ∧ Below wo.heap.size wo W)
        (first
          | (obtain ⟨⟨⟨x0, x1, x2, x3, x4, x5, x6, x7, x8, x9, x10, x11⟩, ⟨u0, u1, u2, u3, u4, u5, u6, u7, u8, u9, u10, u11⟩⟩, v0, v1, v2, v3, v4⟩ := HCX.out _ hby; exact ⟨⟨x0, x1, x2, x3, x4, u0, u1, u2, u3, u4, u5, u6, u7, u8, u9, u10, u11, v0, v1, v2, v3, v4⟩, hby⟩)
          | (obtain ⟨⟨⟨x0, x1, x2, x3, x4, x5, x6, x7, x8, x9, x10, x11⟩, ⟨u0, u1, u2, u3, u4, u5, u6, u7, u8, u9, u10, u11⟩⟩, v0, v1, v2, v3, v4⟩ := HCX.out _ (below_drewN (Below.refl _ _) 1); exact ⟨⟨x0, x1, x2, x3, x4, u0, u1, u2, u3, u4, u5, u6, u7, u8, u9, u10, u11, v0, v1, v2, v3, v4⟩, below_drewN (Below.refl _ _) 1⟩))
        (first
          | (go_at_call 12; refine (HEL.out _ (below_drewN (Below.refl _ _) 1)).mono ?_; rintro e w7 ⟨rfl, hb⟩; have hby : Below wo.heap.size wo w7 := bthen (below_drewN (Below.refl _ _) 1) hb; clear hb))
      have HB7 := Lib.hid hby
      clear hby q0 q1 q2 q3 q4 d0 d1 d2 d3 d4 d5 d6 d7 d8 d9 d10 d11 c0 c1 c2 c3 c4 c5 c6 c7 c8 c9 c10 c11
      go_upto_region 11 with fail
      go_loopw [12] (fun vi wr => ∃ j : Nat, j ≤ m.fn ∧ vi = .int .i64 j ∧ Hid (Below w7.heap.size w7 wr)) (fun vi _ => m.fn - (intOf vi).toNat)
      case atStart => exact ⟨0, by omega, rfl, Lib.hid (Below.refl _ _)⟩
      case round =>
        obtain ⟨j, hj, rfl, HBI⟩ := hrel
        obtain ⟨wi, rfl⟩ : ∃ wi : World, wi = wr := ⟨_, rfl⟩
        have HBJ := Lib.hid (bthen HB7.out HBI.out)
        obtain ⟨⟨⟨d0, d1, d2, d3, d4, d5, d6, d7, d8, d9, d10, d11⟩, ⟨c0, c1, c2, c3, c4, c5, c6, c7, c8, c9, c10, c11⟩⟩, q0, q1, q2, q3, q4⟩ := HCX.out wi HBJ.out
        have hf40 : m.fn ≤ 40 := by have := HFL.out; omega
        by_cases hlj : j < m.fn
        case neg =>
          obtain rfl : j = m.fn := by omega
          have hge : ¬ (m.fn : Int) < (m.fn : Int) := by omega
          have HIL2 := HIL.out
          have HB9 := Lib.hid (bthen HBA.out HBJ.out)
          clear hlj
          go_wp2_with fail
          go_roundw
          case rel => exact ⟨i + 1, by omega, by go_num, HB9⟩
          case measure => (simp [intOf] <;> omega)
        case pos =>
        have hji : (j : Int) < (m.fn : Int) := by omega
        have hj0 : (0 : Int) ≤ (j : Int) := by omega
        have hjz : j < m.F.length := by have := HFL.out; omega
        obtain ⟨fb, fo, hFe, f0, f1, f2, f3⟩ := sz_cells (HM.out.f.keep (Nat.le_refl _) (bthen HB.out HBJ.out)) hjz
        obtain ⟨f, hf⟩ : ∃ f, f = m.F[j] := ⟨_, rfl⟩
        rw [← hf] at f0 f1 f2 f3
        rw [hFe] at d9
        obtain ⟨wb, hwb⟩ : ∃ wb, wb = wi.alloc (.cells #[.string f.name, .int .i64 f.tier, .int .i64 f.proj, .int .i64 f.rows] 57) := ⟨_, rfl⟩
        have hbb : Below wi.heap.size wi wb := by rw [hwb]; exact bpush (Below.refl _ _) _
        have hkb : Blk wb wi.heap.size 57 #[.string f.name, .int .i64 f.tier, .int .i64 f.proj, .int .i64 f.rows] := by rw [hwb]; exact Blk.new _ _ _
        have HBB := Lib.hid (bthen HBJ.out hbb)
        have HBI2 := Lib.hid (bthen HBI.out hbb)
        have HWB := Lib.hid hwb
        obtain ⟨Y1, hY⟩ : ∃ Y, Y = wi.heap.size := ⟨_, rfl⟩
        rw [← hY] at hkb
        have HYE := Lib.hid hY
        have HKB := Lib.hid (fun W (hW : Below wb.heap.size wb W) => show W.cell? ⟨Y1, 1, none⟩ = some (.int .i64 f.tier) ∧ W.cell? ⟨Y1, 2, none⟩ = some (.int .i64 f.proj) ∧ W.cell? ⟨Y1, 3, none⟩ = some (.int .i64 f.rows) from ⟨by rw [(hkb.below hW).cell 1]; rfl, by rw [(hkb.below hW).cell 2]; rfl, by rw [(hkb.below hW).cell 3]; rfl⟩)
        obtain ⟨r2, hr2⟩ : ∃ r, r = elC m.D q m.p ⟨x.frm, x.upto, x.tier, f.proj, x.rows⟩ := ⟨_, rfl⟩
        have HE2 := Lib.hid (fun W (hW : Below wb.heap.size wb W) => show Calls Try.prog 12 #[.agg #[.slice m.dA m.dn m.dc, .slice m.mA m.mn m.mc], .agg #[.slice m.p.tA m.p.tn m.p.tc, .slice m.p.jA m.p.jn m.p.jc, .int .i64 m.p.hor], .agg #[.slice q.tA q.tn q.tc, .int .i64 q.frm, .int .i64 q.upto, .int .i64 q.every, .slice q.bA q.bn q.bc, .int .i64 q.f.op, .string q.f.dim, .string q.f.val, .slice q.f.A q.f.n q.f.c, .slice q.hA q.hn q.hc, .int .i64 q.order, .int .i64 q.limit], .agg #[.int .i64 x.frm, .int .i64 x.upto, .int .i64 x.tier, .int .i64 f.proj, .int .i64 x.rows]] W (fun e w' => e = .returned (.bool r2) ∧ Below W.heap.size W w') from by
          rw [hr2]; exact elig_any m.dA m.mA m.dn m.dc m.mn m.mc m.D q m.p ⟨x.frm, x.upto, x.tier, f.proj, x.rows⟩ W ((HSO.out.ch.keep (Nat.le_refl _) (bthen HB.out (bthen HBB.out hW))).u) (HM.out.pi.keep (Nat.le_refl _) (bthen HB.out (bthen HBB.out hW))))
        have HR2 := Lib.hid (show r2 = true → true = true from fun _ => rfl)
        have HLE := Lib.hid (show f.tier = x.tier → r2 = true → rx ≤ f.rows from fun h1 h2 => by
          rw [hf] at h1 ⊢
          exact HPR.out j hjz h1 (by rw [← hf, ← hr2]; exact h2))
        clear hwb hbb hkb hY hr2 hf
        go_upto_region 14 with fail
        rw [← HWB.out]
        try rw [← HYE.out]
        clear f0 f1 f2 f3 hFe q0 q1 q2 q3 q4 d0 d1 d2 d3 d4 d5 d6 d7 d8 d9 d10 d11 c0 c1 c2 c3 c4 c5 c6 c7 c8 c9 c10 c11
        obtain ⟨⟨⟨d0, d1, d2, d3, d4, d5, d6, d7, d8, d9, d10, d11⟩, ⟨c0, c1, c2, c3, c4, c5, c6, c7, c8, c9, c10, c11⟩⟩, q0, q1, q2, q3, q4⟩ := HCX.out wb HBB.out
        obtain ⟨k1, k2, k3⟩ := HKB.out wb (Below.refl _ _)
        by_cases he : f.tier = x.tier
        case neg =>
          have heb : (f.tier == x.tier) = false := by simp [he]
          clear he
          go_quiet (fail)
          go_wp2_with fail
          go_roundw
          case rel => exact ⟨j + 1, by omega, by go_num, Lib.hid (below_drewN HBI2.out _)⟩
          case measure => (simp [intOf] <;> omega)
        case pos =>
        rw [he] at k1
        have HTE := Lib.hid he
        clear he
        go_quiet (fail)
        obtain ⟨wk, hwk⟩ : ∃ wk, wk = wb.drewN nq := ⟨_, rfl⟩
        have hbk : Below wb.heap.size wb wk := by rw [hwk]; exact below_drewN (Below.refl _ _) _
        rw [← hwk]
        obtain ⟨wl, hwl⟩ : ∃ wl, wl = wk.alloc (.cells #[.int .i64 x.frm, .int .i64 x.upto, .int .i64 x.tier, .int .i64 f.proj, .int .i64 x.rows] 49) := ⟨_, rfl⟩
        have hbl : Below wk.heap.size wk wl := by rw [hwl]; exact bpush (Below.refl _ _) _
        have hkl : Blk wl wk.heap.size 49 #[.int .i64 x.frm, .int .i64 x.upto, .int .i64 x.tier, .int .i64 f.proj, .int .i64 x.rows] := by rw [hwl]; exact Blk.new _ _ _
        have HBK := Lib.hid hbk
        have HBL := Lib.hid (bthen hbk hbl)
        have HWL := Lib.hid hwl
        obtain ⟨Y2, hY2⟩ : ∃ Y, Y = wk.heap.size := ⟨_, rfl⟩
        rw [← hY2] at hkl
        have HYE2 := Lib.hid hY2
        have HKL := Lib.hid hkl
        clear hwk hbk hwl hbl hkl hY2 q0 q1 q2 q3 q4 k1 k2 k3 d0 d1 d2 d3 d4 d5 d6 d7 d8 d9 d10 d11 c0 c1 c2 c3 c4 c5 c6 c7 c8 c9 c10 c11
        obtain ⟨⟨⟨d0, d1, d2, d3, d4, d5, d6, d7, d8, d9, d10, d11⟩, ⟨c0, c1, c2, c3, c4, c5, c6, c7, c8, c9, c10, c11⟩⟩, q0, q1, q2, q3, q4⟩ := HCX.out wk (bthen HBB.out HBK.out)
        obtain ⟨k1, k2, k3⟩ := HKB.out wk HBK.out
        have kx : (wk.alloc (.cells #[.int .i64 x.frm, .int .i64 x.upto, .int .i64 x.tier, .int .i64 (-1), .int .i64 x.rows] 49)).cell? ⟨Y1, 2, none⟩ = some (.int .i64 f.proj) := cell_on (bpush (Below.refl _ _) _) k2
        go_upto_region 17 with fail
        clear kx
        rw [← HWL.out]
        try rw [← HYE2.out]
        clear q0 q1 q2 q3 q4 k1 k2 k3 d0 d1 d2 d3 d4 d5 d6 d7 d8 d9 d10 d11 c0 c1 c2 c3 c4 c5 c6 c7 c8 c9 c10 c11
        obtain ⟨⟨⟨d0, d1, d2, d3, d4, d5, d6, d7, d8, d9, d10, d11⟩, ⟨c0, c1, c2, c3, c4, c5, c6, c7, c8, c9, c10, c11⟩⟩, q0, q1, q2, q3, q4⟩ := HCX.out wl (bthen HBB.out HBL.out)
        obtain ⟨y0, y1, y2, y3, y4⟩ := xz_cells (x := ⟨x.frm, x.upto, x.tier, f.proj, x.rows⟩) HKL.out
        have HE2' := Lib.hid (HE2.out wl HBL.out)
        go_upto_region 18 with (go_at_call 12; refine HE2'.out.mono ?_; rintro e w8 ⟨rfl, hb⟩; have HB8 := Lib.hid (bthen HBL.out hb); clear hb)
        clear q0 q1 q2 q3 q4 y0 y1 y2 y3 y4 d0 d1 d2 d3 d4 d5 d6 d7 d8 d9 d10 d11 c0 c1 c2 c3 c4 c5 c6 c7 c8 c9 c10 c11
        obtain ⟨k1, k2, k3⟩ := HKB.out w8 HB8.out
        rw [HTE.out] at k1
        have HB9 := Lib.hid (below_drewN (bthen HBI2.out HB8.out))
        cases r2 with
        | false =>
          go_quiet (fail)
          go_wp2_with fail
          go_roundw
          case rel => exact ⟨j + 1, by omega, by go_num, Lib.hid (HB9.out _)⟩
          case measure => (simp [intOf] <;> omega)
        | true =>
          have hle : decide (f.rows < rx) = false := by have := HLE.out HTE.out rfl; simp; omega
          have s4 := HXC.out w8 (bthen HBB.out HB8.out)
          have hix : (i : Int) < (S.length : Int) := by have := HIL.out; omega
          go_quiet (fail)
          go_wp2_with fail
          go_roundw
          case rel => exact ⟨j + 1, by omega, by go_num, Lib.hid (HB9.out _)⟩
          case measure => (simp [intOf] <;> omega)
end Go.Proofs.Ytgaallkdfcckpaa
