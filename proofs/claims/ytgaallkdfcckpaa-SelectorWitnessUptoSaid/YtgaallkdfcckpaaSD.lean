/- The document's Eligible (13). -/
import Derived.Test.YtgaallkdfcckpaaSC
import Derived.BigQuiet
namespace Go.Proofs.Ytgaallkdfcckpaa
open Go.RowKit Go.Maps Go.Lib Go.Shelf
set_option linter.unusedSimpArgs false
set_option linter.unusedVariables false
theorem cub_if {p : PZ} {t j : Int} {z : TZ} (h : cubC p t j = some z) : if j < 0 then atZ p.T t = some z else atZ p.J j = some z := by
  unfold cubC at h
  obtain ⟨y, h1, h2⟩ := Option.bind_eq_some_iff.1 h
  by_cases hj : j = -1
  · rw [if_pos hj] at h2; cases h2
    rw [if_pos (by omega)]; exact h1
  · rw [if_neg hj] at h2
    obtain ⟨v, h3, h4⟩ := Option.bind_eq_some_iff.1 h2
    have := (atZ_mem h3).2.1
    rw [if_neg (by omega)]
    by_cases hv : v.x = t
    · rw [if_pos hv] at h4; cases h4; exact h3
    · rw [if_neg hv] at h4; cases h4
theorem co_mod {ev g : Int} (hg : okGran g) (he : ev = 0 ∨ okGran ev) : (decide (ev = 0) || coB ev g) = (ev.tmod g == 0) := by
  rcases he with rfl | he
  · simp
  · have h1 := he.1
    have h2 : ¬ ev = 0 := by omega
    have h3 : ev.tmod g = ev % g := Int.tmod_eq_emod_of_nonneg (by omega)
    unfold coB
    rw [decide_eq_true hg, decide_eq_true he, decide_eq_false h2, h3]; simp
set_option maxRecDepth 100000 in
set_option maxHeartbeats 16000000 in
theorem relig_any (A B : Option Addr) (n c m d : Nat) (L : List ByteArray) (q : QZ) (p : PZ) (x : XZ) (z : TZ) (w : World) (hu : UseOk w A n c L q) (hp : PIn w p) (hz : cubC p x.tier x.proj = some z) (hg : okGran z.g) (he : q.every = 0 ∨ okGran q.every) :
    Calls Try.prog 13 #[.agg #[.slice A n c, .slice B m d], .agg #[.slice p.tA p.tn p.tc, .slice p.jA p.jn p.jc, .int .i64 p.hor], .agg #[.slice q.tA q.tn q.tc, .int .i64 q.frm, .int .i64 q.upto, .int .i64 q.every, .slice q.bA q.bn q.bc, .int .i64 q.f.op, .string q.f.dim, .string q.f.val, .slice q.f.A q.f.n q.f.c, .slice q.hA q.hn q.hc, .int .i64 q.order, .int .i64 q.limit], .agg #[.int .i64 x.frm, .int .i64 x.upto, .int .i64 x.tier, .int .i64 x.proj, .int .i64 x.rows]] w fun e w' => e = .returned (.bool (eligC (usedQ L q) q.every p x)) ∧ Below w.heap.size w w' := by
  obtain ⟨wa, hwa⟩ : ∃ wa, wa = w.alloc (.cells #[.slice A n c, .slice B m d] 24) := ⟨_, rfl⟩
  obtain ⟨wb, hwb⟩ : ∃ wb, wb = wa.alloc (.cells #[.slice p.tA p.tn p.tc, .slice p.jA p.jn p.jc, .int .i64 p.hor] 28) := ⟨_, rfl⟩
  obtain ⟨wc, hwc⟩ : ∃ wc, wc = wb.alloc (.cells #[.slice q.tA q.tn q.tc, .int .i64 q.frm, .int .i64 q.upto, .int .i64 q.every, .slice q.bA q.bn q.bc, .int .i64 q.f.op, .string q.f.dim, .string q.f.val, .slice q.f.A q.f.n q.f.c, .slice q.hA q.hn q.hc, .int .i64 q.order, .int .i64 q.limit] 42) := ⟨_, rfl⟩
  obtain ⟨w1, hw1⟩ : ∃ w1, w1 = wc.alloc (.cells #[.int .i64 x.frm, .int .i64 x.upto, .int .i64 x.tier, .int .i64 x.proj, .int .i64 x.rows] 49) := ⟨_, rfl⟩
  have ba : Below w.heap.size w wa := by rw [hwa]; exact bpush (Below.refl _ _) _
  have bb : Below wa.heap.size wa wb := by rw [hwb]; exact bpush (Below.refl _ _) _
  have bc : Below wb.heap.size wb wc := by rw [hwc]; exact bpush (Below.refl _ _) _
  have bd : Below wc.heap.size wc w1 := by rw [hw1]; exact bpush (Below.refl _ _) _
  have kS : Blk wa w.heap.size 24 #[.slice A n c, .slice B m d] := by rw [hwa]; exact Blk.new _ _ _
  have kP : Blk wb wa.heap.size 28 #[.slice p.tA p.tn p.tc, .slice p.jA p.jn p.jc, .int .i64 p.hor] := by rw [hwb]; exact Blk.new _ _ _
  have kQ : Blk wc wb.heap.size 42 #[.slice q.tA q.tn q.tc, .int .i64 q.frm, .int .i64 q.upto, .int .i64 q.every, .slice q.bA q.bn q.bc, .int .i64 q.f.op, .string q.f.dim, .string q.f.val, .slice q.f.A q.f.n q.f.c, .slice q.hA q.hn q.hc, .int .i64 q.order, .int .i64 q.limit] := by rw [hwc]; exact Blk.new _ _ _
  have kX : Blk w1 wc.heap.size 49 #[.int .i64 x.frm, .int .i64 x.upto, .int .i64 x.tier, .int .i64 x.proj, .int .i64 x.rows] := by rw [hw1]; exact Blk.new _ _ _
  have sza : wa.heap.size = w.heap.size + 1 := by rw [hwa]; simp
  have szb : wb.heap.size = w.heap.size + 2 := by rw [hwb]; simp [sza]
  have szc : wc.heap.size = w.heap.size + 3 := by rw [hwc]; simp [szb]
  rw [sza] at kP
  rw [szb] at kQ
  rw [szc] at kX
  have kS := kS.below (bthen (bthen bb bc) bd)
  have kP := kP.below (bthen bc bd)
  have kQ := kQ.below bd
  have hb1 : Below w.heap.size w w1 := bthen (bthen (bthen ba bb) bc) bd
  have HB1 := Lib.hid hb1
  obtain ⟨S, hSe⟩ : ∃ S, S = w.heap.size := ⟨_, rfl⟩
  obtain ⟨P, hPe⟩ : ∃ P, P = w.heap.size + 1 := ⟨_, rfl⟩
  obtain ⟨Q, hQe⟩ : ∃ Q, Q = w.heap.size + 2 := ⟨_, rfl⟩
  obtain ⟨X, hXe⟩ : ∃ X, X = w.heap.size + 3 := ⟨_, rfl⟩
  rw [← hSe] at kS
  rw [← hPe] at kP
  rw [← hQe] at kQ
  rw [← hXe] at kX
  have HK := Lib.hid (And.intro kS (And.intro kP (And.intro kQ kX)))
  have HCE := Lib.hid (fun W (hW : Below w1.heap.size w1 W) => And.intro (s_cells (HK.out.1.below hW)) (And.intro (p_cells (HK.out.2.1.below hW)) (And.intro (q_cells (HK.out.2.2.1.below hW)) (xz_cells (HK.out.2.2.2.below hW)))))
  have HW1 := Lib.hid (show w1 = (((w.alloc (.cells #[.slice A n c, .slice B m d] 24)).alloc (.cells #[.slice p.tA p.tn p.tc, .slice p.jA p.jn p.jc, .int .i64 p.hor] 28)).alloc (.cells #[.slice q.tA q.tn q.tc, .int .i64 q.frm, .int .i64 q.upto, .int .i64 q.every, .slice q.bA q.bn q.bc, .int .i64 q.f.op, .string q.f.dim, .string q.f.val, .slice q.f.A q.f.n q.f.c, .slice q.hA q.hn q.hc, .int .i64 q.order, .int .i64 q.limit] 42)).alloc (.cells #[.int .i64 x.frm, .int .i64 x.upto, .int .i64 x.tier, .int .i64 x.proj, .int .i64 x.rows] 49) by rw [hw1, hwc, hwb, hwa])
  have HE4 := Lib.hid (And.intro hSe (And.intro hPe (And.intro hQe hXe)))
  have HU := Lib.hid (hu.keep (Nat.le_refl _) hb1)
  have HP := Lib.hid (hp.keep (Nat.le_refl _) hb1)
  obtain ⟨oo, hoo⟩ : ∃ o, o = eligC (usedQ L q) q.every p x := ⟨_, rfl⟩
  rw [← hoo]
  unfold eligC at hoo
  rw [hz] at hoo
  have HZ := Lib.hid (HP.out.cub hz)
  have HCU := Lib.hid (rcuboid_any p x z w1 HP.out (cub_if hz))
  have HOZ := Lib.hid (show oo = eligZ (usedQ L q) q.every z x.frm x.upto from hoo)
  obtain ⟨zg, hzg⟩ : ∃ x, x = z.g := ⟨_, rfl⟩
  obtain ⟨zA, hzA⟩ : ∃ x, x = z.A := ⟨_, rfl⟩
  obtain ⟨zn, hzn⟩ : ∃ x, x = z.n := ⟨_, rfl⟩
  obtain ⟨zc, hzc⟩ : ∃ x, x = z.c := ⟨_, rfl⟩
  obtain ⟨D, hD⟩ : ∃ x, x = z.D := ⟨_, rfl⟩
  have HCU := Lib.hid (show Calls Try.prog 28 #[.agg #[.slice p.tA p.tn p.tc, .slice p.jA p.jn p.jc, .int .i64 p.hor], .agg #[.int .i64 x.frm, .int .i64 x.upto, .int .i64 x.tier, .int .i64 x.proj, .int .i64 x.rows]] w1 fun e w' => e = .returned (.tuple #[.slice zA zn zc, .int .i64 zg]) ∧ Below w1.heap.size w1 w' from by rw [hzA, hzn, hzc, hzg]; exact HCU.out)
  have HZ := Lib.hid (show StrsIn w1 zA zn zc D by rw [hzA, hzn, hzc, hD]; exact HZ.out)
  obtain ⟨ev, hev⟩ : ∃ x, x = q.every := ⟨_, rfl⟩
  obtain ⟨fr, hfr⟩ : ∃ y, y = x.frm := ⟨_, rfl⟩
  obtain ⟨up, hup⟩ : ∃ y, y = x.upto := ⟨_, rfl⟩
  obtain ⟨U, hU⟩ : ∃ U, U = usedQ L q := ⟨_, rfl⟩
  have HA1 := Lib.hid (fun W => ral_any fr zg W)
  have HA2 := Lib.hid (fun W => ral_any up zg W)
  obtain ⟨a1, ha1⟩ : ∃ r, r = alB fr zg := ⟨_, rfl⟩
  obtain ⟨a2, ha2⟩ : ∃ r, r = alB up zg := ⟨_, rfl⟩
  rw [← ha1] at HA1
  rw [← ha2] at HA2
  rw [← hzg] at hg
  rw [← hev] at he
  have HOE := Lib.hid (show oo = (!(U.any fun s => !inT D s) && (ev.tmod zg == 0) && a1 && a2) by
    rw [HOZ.out, ha1, ha2, hfr, hup, hU, hD, ← co_mod hg he, hev, hzg]; rfl)
  have HUS := Lib.hid (fun W (hW : Below w1.heap.size w1 W) => rused_any A B n c m d L [] q W (HU.out.li.keep (Nat.le_refl _) hW) (HU.out.qi.keep (Nat.le_refl _) hW) HU.out.b (by rw [dims_leaves, List.length_map]; exact HU.out.lv) HU.out.n20)
  have HUE := Lib.hid hU
  have HULEN := Lib.hid (show U.length ≤ 1000000 by rw [hU]; have := usedQ_len L q; have := HU.out.li.len; have := HU.out.n20; omega)
  have hg1 : ¬ zg = 0 := by have := hg.1; omega
  have hg2 : ¬ zg = -1 := by have := hg.1; omega
  have HCE := Lib.hid (fun W (hW : Below w1.heap.size w1 W) => show (W.cell? ⟨S, 0, none⟩ = some (.slice A n c) ∧ W.cell? ⟨S, 1, none⟩ = some (.slice B m d)) ∧ (W.cell? ⟨P, 0, none⟩ = some (.slice p.tA p.tn p.tc) ∧ W.cell? ⟨P, 1, none⟩ = some (.slice p.jA p.jn p.jc) ∧ W.cell? ⟨P, 2, none⟩ = some (.int .i64 p.hor)) ∧ (W.cell? ⟨Q, 0, none⟩ = some (.slice q.tA q.tn q.tc) ∧ W.cell? ⟨Q, 1, none⟩ = some (.int .i64 q.frm) ∧ W.cell? ⟨Q, 2, none⟩ = some (.int .i64 q.upto) ∧ W.cell? ⟨Q, 3, none⟩ = some (.int .i64 ev) ∧ W.cell? ⟨Q, 4, none⟩ = some (.slice q.bA q.bn q.bc) ∧ W.cell? ⟨Q, 5, none⟩ = some (.int .i64 q.f.op) ∧ W.cell? ⟨Q, 6, none⟩ = some (.string q.f.dim) ∧ W.cell? ⟨Q, 7, none⟩ = some (.string q.f.val) ∧ W.cell? ⟨Q, 8, none⟩ = some (.slice q.f.A q.f.n q.f.c) ∧ W.cell? ⟨Q, 9, none⟩ = some (.slice q.hA q.hn q.hc) ∧ W.cell? ⟨Q, 10, none⟩ = some (.int .i64 q.order) ∧ W.cell? ⟨Q, 11, none⟩ = some (.int .i64 q.limit)) ∧ (W.cell? ⟨X, 0, none⟩ = some (.int .i64 fr) ∧ W.cell? ⟨X, 1, none⟩ = some (.int .i64 up) ∧ W.cell? ⟨X, 2, none⟩ = some (.int .i64 x.tier) ∧ W.cell? ⟨X, 3, none⟩ = some (.int .i64 x.proj) ∧ W.cell? ⟨X, 4, none⟩ = some (.int .i64 x.rows)) from by
    rw [hev, hfr, hup]; exact HCE.out W hW)
  have HEV := Lib.hid (And.intro hev (And.intro hfr hup))
  have HCUE := Lib.hid (show Calls Try.prog 28 #[.agg #[.slice p.tA p.tn p.tc, .slice p.jA p.jn p.jc, .int .i64 p.hor], .agg #[.int .i64 fr, .int .i64 up, .int .i64 x.tier, .int .i64 x.proj, .int .i64 x.rows]] w1 fun e w' => e = .returned (.tuple #[.slice zA zn zc, .int .i64 zg]) ∧ Below w1.heap.size w1 w' from by rw [hfr, hup]; exact HCU.out)
  have HUS := Lib.hid (fun W (hW : Below w1.heap.size w1 W) => show Calls Try.prog 29 #[.agg #[.slice A n c, .slice B m d], .agg #[.slice q.tA q.tn q.tc, .int .i64 q.frm, .int .i64 q.upto, .int .i64 ev, .slice q.bA q.bn q.bc, .int .i64 q.f.op, .string q.f.dim, .string q.f.val, .slice q.f.A q.f.n q.f.c, .slice q.hA q.hn q.hc, .int .i64 q.order, .int .i64 q.limit]] W (TextsP W (usedL L (q.BY ++ q.f.dims))) from by rw [hev]; exact HUS.out W hW)
  have HUL := Lib.hid (show (usedL L (q.BY ++ q.f.dims)).length = U.length by rw [hU]; rfl)
  have HUT := Lib.hid (show texts (usedL L (q.BY ++ q.f.dims)) = texts U by rw [hU]; rfl)
  obtain ⟨⟨s0, s1⟩, ⟨p0, p1, p2⟩, ⟨c0, c1, c2, c3, c4, c5, c6, c7, c8, c9, c10, c11⟩, ⟨x0, x1, x2, x3, x4⟩⟩ := HCE.out w1 (Below.refl _ _)
  clear hwa hwb hwc hw1 ba bb bc bd sza szb szc kS kP kQ kX hb1 hu hp hSe hPe hQe hXe hoo hz hzg hzA hzn hzc hD hev hfr hup hU ha1 ha2 hg he HCU
  go_enter Try.func13, Try.ntmps13
  go_upto_region 1 with fail
  rw [← HW1.out, ← HE4.out.2.2.2, ← HE4.out.2.2.1, ← HE4.out.2.1, ← HE4.out.1]
  rw [← HEV.out.1, ← HEV.out.2.1, ← HEV.out.2.2]
  go_upto_region 2 with (go_at_call 28; refine HCUE.out.mono ?_; rintro e w2 ⟨rfl, hb⟩; have HB2 := Lib.hid hb; clear hb)
  clear s0 s1 p0 p1 p2 c0 c1 c2 c3 c4 c5 c6 c7 c8 c9 c10 c11 x0 x1 x2 x3 x4
  obtain ⟨⟨s0, s1⟩, ⟨p0, p1, p2⟩, ⟨c0, c1, c2, c3, c4, c5, c6, c7, c8, c9, c10, c11⟩, ⟨x0, x1, x2, x3, x4⟩⟩ := HCE.out w2 HB2.out
  go_upto_region 4 with (go_at_call 29; refine (HUS.out w2 HB2.out).mono ?_; rintro e w3 ⟨v3, rfl, ho3, hb⟩; have HB3 := Lib.hid (bthen HB2.out hb); rw [HUL.out, HUT.out] at ho3; obtain ⟨A3, k3, rfl, hr3, -, -⟩ := own_slice ho3; have HR3 := Lib.hid hr3; clear hb ho3 hr3)
  clear s0 s1 p0 p1 p2 c0 c1 c2 c3 c4 c5 c6 c7 c8 c9 c10 c11 x0 x1 x2 x3 x4
  obtain ⟨un, hun⟩ : ∃ u, u = U.length := ⟨_, rfl⟩
  rw [← hun]
  have HUN := Lib.hid hun
  have hun6 : un ≤ 1000000 := by rw [hun]; exact HULEN.out
  clear hun
  go_loopw [12] (fun v12 wr => ∃ k : Nat, k ≤ un ∧ v12 = .int .i64 k ∧ Hid (∀ (j : Nat) (h : j < U.length), j < k → inT D U[j] = true) ∧ wr = w3) (fun v12 _ => un - (intOf v12).toNat)
  case atStart => exact ⟨0, Nat.zero_le _, rfl, Lib.hid (fun j _ h => by omega), rfl⟩
  case round =>
    obtain ⟨k, hk, rfl, HKK, rfl⟩ := hrel
    by_cases hlt : k < un
    · have hkz : k < U.length := by have := HUN.out; omega
      have hki : (k : Int) < (un : Int) := by omega
      have hk0 : (0 : Int) ≤ (k : Int) := by omega
      obtain ⟨b, off, hAe, q0⟩ := text_cell HR3.out hkz
      obtain ⟨s, hs⟩ : ∃ s, s = U[k] := ⟨_, rfl⟩
      rw [← hs] at q0
      obtain ⟨o, ho⟩ := first_ex D s
      have HF := Lib.hid (find_is zA zn zc D s o ho wr (HZ.out.row.keep (Nat.le_refl _) HB3.out) HZ.out.len HZ.out.max)
      obtain ⟨r, hr⟩ : ∃ r, r = o.isSome := ⟨_, rfl⟩
      obtain ⟨og, hog⟩ : ∃ g, g = o.getD 0 := ⟨_, rfl⟩
      rw [← hr, ← hog] at HF
      have HRE := Lib.hid (show inT D s = r by rw [hr]; exact (first_mem ho).symm)
      have HS := Lib.hid hs
      subst hAe
      clear hs hr hog ho hlt
      cases r with
      | false =>
        have HE := Lib.hid (show oo = false by
          rw [HOE.out]
          have : (U.any fun s => !inT D s) = true := List.any_eq_true.2 ⟨s, by rw [HS.out]; exact List.getElem_mem _, by rw [HRE.out]; rfl⟩
          rw [this]; rfl)
        go_wp2_with (go_at_call 30; refine HF.out.mono ?_; rintro e w5 ⟨rfl, hw5⟩; obtain rfl : wr = w5 := hw5.symm)
        go_ret
        exact ⟨by rw [HE.out]; rfl, bthen HB1.out HB3.out⟩
      | true =>
        have HKK2 := Lib.hid (show ∀ (j : Nat) (h : j < U.length), j < k + 1 → inT D U[j] = true from fun j h hj => by
          rcases Nat.lt_or_ge j k with e | e
          · exact HKK.out j h e
          · obtain rfl : j = k := by omega
            rw [← HS.out]; exact HRE.out)
        go_wp2_with (go_at_call 30; refine HF.out.mono ?_; rintro e w5 ⟨rfl, hw5⟩; obtain rfl : wr = w5 := hw5.symm)
        go_roundw
        case rel => exact ⟨k + 1, by omega, by go_num, HKK2, by first | rfl | trivial⟩
        case measure => simp [intOf]; omega
    · have hge : ¬ (k : Int) < (un : Int) := by omega
      have HOF := Lib.hid (show oo = ((ev.tmod zg == 0) && a1 && a2) by
        rw [HOE.out]
        have : (U.any fun s => !inT D s) = false := by
          rw [Bool.eq_false_iff]
          intro h
          obtain ⟨s, hs, hn⟩ := List.any_eq_true.1 h
          obtain ⟨j, hj, rfl⟩ := List.mem_iff_getElem.1 hs
          rw [HKK.out j hj (by have := HUN.out; omega)] at hn
          cases hn
        rw [this]; simp)
      clear hlt
      obtain ⟨⟨s0, s1⟩, ⟨p0, p1, p2⟩, ⟨c0, c1, c2, c3, c4, c5, c6, c7, c8, c9, c10, c11⟩, ⟨x0, x1, x2, x3, x4⟩⟩ := HCE.out wr HB3.out
      obtain ⟨e0, he0⟩ : ∃ e, (ev.tmod zg == 0) = e := ⟨_, rfl⟩
      rw [he0] at HOF
      have HOO := Lib.hid HOF.out
      cases a1 with
      | false =>
        go_wp2_with (first
          | (go_at_call 31; with_reducible refine (HA1.out _).mono ?_; rintro e w5 ⟨rfl, rfl⟩)
          | (go_at_call 31; with_reducible refine (HA2.out _).mono ?_; rintro e w5 ⟨rfl, rfl⟩))
        go_ret
        exact ⟨by rw [HOO.out]; simp, bthen HB1.out HB3.out⟩
      | true =>
      cases a2 with
      | false =>
        go_wp2_with (first
          | (go_at_call 31; with_reducible refine (HA1.out _).mono ?_; rintro e w5 ⟨rfl, rfl⟩)
          | (go_at_call 31; with_reducible refine (HA2.out _).mono ?_; rintro e w5 ⟨rfl, rfl⟩))
        go_ret
        exact ⟨by rw [HOO.out]; simp, bthen HB1.out HB3.out⟩
      | true =>
        cases e0
        all_goals
          go_wp2_with (first
            | (go_at_call 31; with_reducible refine (HA1.out _).mono ?_; rintro e w5 ⟨rfl, rfl⟩)
            | (go_at_call 31; with_reducible refine (HA2.out _).mono ?_; rintro e w5 ⟨rfl, rfl⟩))
          go_ret
          exact ⟨by rw [HOO.out]; rfl, bthen HB1.out HB3.out⟩
end Go.Proofs.Ytgaallkdfcckpaa
