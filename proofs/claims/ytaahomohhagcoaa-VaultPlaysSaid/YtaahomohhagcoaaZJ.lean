/- An act of the document's vault; is a vault as the document's. -/
import Derived.Test.YtaahomohhagcoaaZI
import Derived.Test.YtaahomohhagcoaaU
import Derived.Test.YtaahomohhagcoaaV
namespace Go.Proofs.Ytaahomohhagcoaa
open Go.RowKit Go.Maps Go.Shelf Go.Lib
set_option linter.unusedSimpArgs false
set_option linter.unusedVariables false
theorem RActP.pre {w w1 w' : World} {a : Nat} {R : RV} {X : VZ × Int} {e : Ending} (hb : Below w.heap.size w w1) (h : RActP w1 a R X e w') : RActP w a R X e w' := by
  obtain ⟨R', he, hi, hr, hf, hx⟩ := h
  exact ⟨R', he, hi, hr, (Fr.of_below hb).trans hf, fun i h => (hx i h).imp id fun h => Nat.le_trans hb.size h⟩
set_option maxRecDepth 100000 in
set_option maxHeartbeats 8000000 in
theorem doref_any (B a : Nat) (R : RV) (P : VZ) (x : Act5) (w : World) (h : RRep w a R) (hi : RIs R P) (hp : PInv P) (hx : OkAct w B x) (hB : B ≤ w.heap.size) (hBa : B ≤ a) :
    Calls Try.prog 14 #[x.val, .pointer (some ⟨a, 0, none⟩)] w (RActP w a R (doS P x)) := by
  obtain ⟨X, hX⟩ : ∃ X, X = doS P x := ⟨_, rfl⟩
  rw [← hX]
  obtain ⟨k, n, s, z, A, nb, cb, bs⟩ := x
  obtain ⟨w1, hw1⟩ : ∃ w1, w1 = w.alloc (.cells #[.int .i64 k, .int .i64 n, .string s, .string z, .slice A nb cb] 33) := ⟨_, rfl⟩
  have hb1 : Below w.heap.size w w1 := by rw [hw1]; exact bpush (Below.refl _ _) _
  have HB1 := Lib.hid hb1
  have HR1 := Lib.hid (h.below hb1)
  have HI := Lib.hid hi
  have HP := Lib.hid hp
  have HX1 := Lib.hid (hx.keep (hb1.mono hB))
  have HX := Lib.hid hX
  have HK := Lib.hid (show Blk w1 w.heap.size 33 #[.int .i64 k, .int .i64 n, .string s, .string z, .slice A nb cb] by rw [hw1]; exact Blk.new _ _ _)
  have HBA := Lib.hid hBa
  have c0 := HK.out.cell 0
  have c1 := HK.out.cell 1
  have c2 := HK.out.cell 2
  have c3 := HK.out.cell 3
  have c4 := HK.out.cell 4
  simp at c0 c1 c2 c3 c4
  have HW1 := Lib.hid hw1
  clear hw1 hb1 h hx hX hB hi hp hBa
  show Calls Try.prog 14 #[.agg #[.int .i64 k, .int .i64 n, .string s, .string z, .slice A nb cb], .pointer (some ⟨a, 0, none⟩)] w _
  by_cases h1 : k = 1
  · subst h1
    have hsp : X = appendS P s bs := by rw [HX.out]; simp [doS]
    have HC := Lib.hid (rappend_any a R P s A nb cb bs w1 HR1.out HI.out HP.out HX1.out.a HX1.out.arg.row HX1.out.arg.len HX1.out.arg.cap HX1.out.arg.nil HX1.out.arg.big (fun hne b o e => by have h1 := HX1.out.arg.low hne b o e; have := HBA.out; omega))
    rw [← hsp] at HC
    clear hsp
    go_enter Try.func14, Try.ntmps14
    go_upto_region 1 with fail
    rw [← HW1.out]
    go_wp2_with (go_at_call 31; refine HC.out.mono ?_; rintro e w2 ⟨R2, rfl, hi2, hq2⟩; have HP2 := Lib.hid (show RActP w1 a R X (.returned (.int .i64 X.2)) w2 from ⟨R2, rfl, hi2, hq2⟩); clear hi2 hq2)
    go_ret
    exact HP2.out.pre HB1.out
  have k1 : (k == 1) = false := by simpa using h1
  by_cases h2 : k = 2
  · subst h2
    have hsp : X = syncS P s := by rw [HX.out]; simp [doS]
    have HC := Lib.hid (rsync_any a R P s w1 HR1.out HI.out HP.out)
    rw [← hsp] at HC
    clear hsp
    go_enter Try.func14, Try.ntmps14
    go_upto_region 1 with fail
    rw [← HW1.out]
    go_wp2_with (go_at_call 32; refine HC.out.mono ?_; rintro e w2 ⟨R2, rfl, hi2, hq2⟩; have HP2 := Lib.hid (show RActP w1 a R X (.returned (.int .i64 X.2)) w2 from ⟨R2, rfl, hi2, hq2⟩); clear hi2 hq2)
    go_ret
    exact HP2.out.pre HB1.out
  have k2 : (k == 2) = false := by simpa using h2
  by_cases h3 : k = 3
  · subst h3
    have hsp : X = renameS P s z := by rw [HX.out]; simp [doS]
    have HC := Lib.hid (rrename_any a R P s z w1 HR1.out HI.out HP.out HX1.out.z)
    rw [← hsp] at HC
    clear hsp
    go_enter Try.func14, Try.ntmps14
    go_upto_region 1 with fail
    rw [← HW1.out]
    go_wp2_with (go_at_call 33; refine HC.out.mono ?_; rintro e w2 ⟨R2, rfl, hi2, hq2⟩; have HP2 := Lib.hid (show RActP w1 a R X (.returned (.int .i64 X.2)) w2 from ⟨R2, rfl, hi2, hq2⟩); clear hi2 hq2)
    go_ret
    exact HP2.out.pre HB1.out
  have k3 : (k == 3) = false := by simpa using h3
  by_cases h4 : k = 4
  · subst h4
    have hsp : X = deleteS P s := by rw [HX.out]; simp [doS]
    have HC := Lib.hid (rdelete_any a R P s w1 HR1.out HI.out HP.out)
    rw [← hsp] at HC
    clear hsp
    go_enter Try.func14, Try.ntmps14
    go_upto_region 1 with fail
    rw [← HW1.out]
    go_wp2_with (go_at_call 34; refine HC.out.mono ?_; rintro e w2 ⟨R2, rfl, hi2, hq2⟩; have HP2 := Lib.hid (show RActP w1 a R X (.returned (.int .i64 X.2)) w2 from ⟨R2, rfl, hi2, hq2⟩); clear hi2 hq2)
    go_ret
    exact HP2.out.pre HB1.out
  have k4 : (k == 4) = false := by simpa using h4
  by_cases h5 : k = 5
  · subst h5
    have hsp : X = armS P n := by rw [HX.out]; simp [doS]
    have HSP := Lib.hid hsp
    clear hsp
    by_cases hn : n < 0
    · have kn : decide (n < 0) = true := by simp; omega
      have HS := Lib.hid (show X = (P, 1) by rw [HSP.out]; unfold armS; rw [if_pos hn])
      clear hn
      go_enter Try.func14, Try.ntmps14
      go_upto_region 1 with fail
      rw [← HW1.out]
      go_wp2_with fail
      go_ret
      exact RActP.pre HB1.out ⟨R, by rw [HS.out]; rfl, by rw [HS.out]; exact HI.out, HR1.out, Fr.refl _ _, fun i h => .inl h⟩
    · have kn : decide (n < 0) = false := by simp; omega
      obtain ⟨q, rfl⟩ : ∃ q : Nat, n = (q : Int) := ⟨n.toNat, by omega⟩
      have HS := Lib.hid (show X = (armZ P q, 0) by rw [HSP.out]; unfold armS; rw [if_neg hn]; rfl)
      have f1 := HR1.out.blk.cell 1
      have fz := HR1.out.blk.frozen 1
      simp at f1
      clear hn
      go_enter Try.func14, Try.ntmps14
      go_upto_region 1 with fail
      rw [← HW1.out]
      go_wp2_with fail
      go_ret
      refine RActP.pre HB1.out ⟨{ R with fuse := (q : Int) }, by rw [HS.out]; rfl, by rw [HS.out]; exact ⟨HI.out.room, rfl, HI.out.F⟩, HR1.out.set_fuse q, (Fr.refl (fun i => i = a) w1).set_ (.inl (show a = a from rfl)) _, fun i h => .inl h⟩
  have k5 : (k == 5) = false := by simpa using h5
  have hsp : X = (P, 0) := by rw [HX.out]; simp [doS, h1, h2, h3, h4, h5]
  have HSP := Lib.hid hsp
  clear hsp h1 h2 h3 h4 h5
  go_enter Try.func14, Try.ntmps14
  go_upto_region 1 with fail
  rw [← HW1.out]
  go_wp2_with fail
  go_ret
  exact RActP.pre HB1.out ⟨R, by rw [HSP.out]; rfl, by rw [HSP.out]; exact HI.out, HR1.out, Fr.refl _ _, fun i h => .inl h⟩

theorem RIs.names {R : RV} {V : VZ} (h : RIs R (normZ V)) : namesF R.F = namesF V.F := by
  have e : R.F.map normF = V.F.map normF := h.F
  have := congrArg (List.map FZ.name) e
  rw [List.map_map, List.map_map] at this
  exact this
theorem RIs.bytes {R : RV} {V : VZ} (h : RIs R (normZ V)) {j : Nat} (h1 : j < R.F.length) (h2 : j < V.F.length) : R.F[j].bs = V.F[j].bs ∧ R.F[j].n = V.F[j].n := by
  have e : R.F.map normF = V.F.map normF := h.F
  have h3 : (R.F.map normF)[j]'(by rw [List.length_map]; exact h1) = (V.F.map normF)[j]'(by rw [List.length_map]; exact h2) := by simp only [e]
  rw [List.getElem_map, List.getElem_map] at h3
  have h4 := congrArg FZ.bs h3
  have h5 := congrArg FZ.n h3
  exact ⟨h4, h5⟩
set_option maxRecDepth 100000 in
set_option maxHeartbeats 16000000 in
theorem alike_any (B a mb : Nat) (V : VZ) (R : RV) (w : World) (h : VRep w B a V) (hr : RRep w mb R) (hi : RIs R (normZ V)) : Calls Try.prog 19 #[.pointer (some ⟨a, 0, none⟩), .pointer (some ⟨mb, 0, none⟩)] w fun e w' => e = .returned (.bool true) ∧ Below w.heap.size w w' := by
  have HV := Lib.hid h
  have HR := Lib.hid hr
  have HI := Lib.hid hi
  have HP := Lib.hid h.inv
  obtain ⟨nl, hnl⟩ : ∃ nl, nl = V.F.length := ⟨_, rfl⟩
  have HNL := Lib.hid hnl
  have hl200 : nl ≤ 200 := by rw [hnl]; exact h.len
  have hrl : R.F.length = nl := by rw [hnl, hi.len]; exact List.length_map ..
  have HRL := Lib.hid hrl
  have HL1 := Lib.hid (list_any B a V w h)
  clear h hr hi hnl hrl
  go_enter Try.func19, Try.ntmps19
  go_upto_region 2 with (go_at_call 27; refine HL1.out.mono ?_; rintro e w1 ⟨D, kk, rfl, ho, hb⟩; rw [← HNL.out] at ho ⊢; have HO1 := Lib.hid ho; have HB1 := Lib.hid hb; clear ho hb)
  have HROW := Lib.hid (show Row w1 D (texts (namesF V.F)) ∧ nl ≤ kk from by
    obtain ⟨A', c', e, hrow, h, _⟩ := own_slice HO1.out
    cases e; exact ⟨hrow, h⟩)
  have HL2 := Lib.hid (rlist_any mb R w1 (HR.out.below HB1.out) (by have := HRL.out; omega))
  go_upto_region 3 with (first
    | (go_at_call 38; refine HL2.out.mono ?_; rintro e w2 ⟨D2, k2, rfl, hrow, hb⟩; have HR2 := Lib.hid (show Row w2 D2 (texts (namesF V.F)) from (by rw [← HI.out.names]; exact hrow)); have HB2 := Lib.hid hb; clear hrow hb)
    | (go_at_call 28; refine (texts_any D D2 nl kk R.F.length k2 (namesF V.F) (namesF V.F) w2 (HROW.out.1.keep (Nat.le_refl _) HB2.out) HR2.out (by rw [HNL.out]; unfold namesF; rw [List.length_map]) (by rw [HRL.out, HNL.out]; unfold namesF; rw [List.length_map]) (by omega) (by rw [HRL.out]; omega) true ⟨fun _ => rfl, fun _ => rfl⟩).mono ?_; rintro e w3 ⟨rfl, hb⟩; have HB3 := Lib.hid hb; clear hb))
  have HBX := Lib.hid (bthen HB1.out (bthen HB2.out HB3.out))
  obtain ⟨fr, hfr⟩ : ∃ fr, fr = V.room - usedF V.F := ⟨_, rfl⟩
  have HV3 := Lib.hid (HV.out.below HBX.out)
  have HR3 := Lib.hid (HR.out.below HBX.out)
  have HQ1 := Lib.hid (fun z => free_draw HV3.out z fr hfr)
  have HQ2 := Lib.hid (show ∀ z, Calls Try.prog 39 #[.pointer (some ⟨mb, 0, none⟩)] (w3.drewN z) fun e w' => e = .returned (.int .i64 (fr : Int)) ∧ w' = w3.drewN z from fun z => (free_is (HR3.out.drews (m := z)) HI.out HP.out fr (by rw [hfr]; show _ = V.room - usedF (V.F.map normF); rw [norm_used])).mono fun e w' ⟨h1, h2⟩ => ⟨h1, h2.symm⟩)
  obtain ⟨bq, hbq⟩ : ∃ bq, bq = brkZ V := ⟨_, rfl⟩
  have HQ3 := Lib.hid (show ∀ z, Calls Try.prog 26 #[.pointer (some ⟨a, 0, none⟩)] (w3.drewN z) fun e w' => e = .returned (.bool bq) ∧ w' = w3.drewN z from fun z => (broken_any a V _ (HV3.out.below (below_drewN (Below.refl _ _) z)).core).mono fun e w' ⟨h1, h2⟩ => ⟨by rw [hbq]; exact h1, h2.symm⟩)
  have f1 := HR3.out.blk.cell 1
  simp at f1
  have hfb : (R.fuse == 0) = bq := by
    rw [hbq, HI.out.fuse]
    show (fuseI V == 0) = brkZ V
    unfold fuseI brkZ
    cases V.armed with
    | false => rfl
    | true =>
      by_cases h0 : V.fuse = 0
      · rw [h0]; rfl
      · have e1 : ((V.fuse : Int) == 0) = false := by simp; omega
        have e2 : (V.fuse == 0) = false := by simpa using h0
        show ((V.fuse : Int) == 0) = (V.fuse == 0)
        rw [e1, e2]
  obtain ⟨fu, hfu⟩ : ∃ fu, fu = R.fuse := ⟨_, rfl⟩
  rw [← hfu] at f1 hfb
  have HBD := Lib.hid (fun z => below_drewN HBX.out z)
  clear hfr hbq hfu
  go_upto_region 3 with fail
  go_cut [34] (fun sl wx => sl = .bool false ∧ Hid (∃ z, wx = w3.drewN z))
  case first =>
    cases bq
    all_goals
      go_quiet (first
        | (go_at_call 29; exact Calls.quiet_of (HQ1.out _))
        | (go_at_call 39; exact Calls.quiet_of_same (HQ2.out _))
        | (go_at_call 26; exact Calls.quiet_of_same (HQ3.out _)))
      go_wp2_with fail
      go_meet
      case rel => exact ⟨rfl, Lib.hid ⟨_, rfl⟩⟩
  case rest =>
  obtain ⟨rfl, HZ⟩ := hcut
  have HB4 := Lib.hid (show Below w.heap.size w wc by obtain ⟨z, e⟩ := HZ.out; rw [e]; exact HBD.out z)
  have HB14 := Lib.hid (show Below w1.heap.size w1 wc by obtain ⟨z, e⟩ := HZ.out; rw [e]; exact below_drewN (bthen HB2.out HB3.out) z)
  clear HQ1 HQ2 HQ3 f1 hfb HBD HL1 HL2 HO1 HZ
  go_wp2_with fail
  go_loopw [7] (fun v7 wr => ∃ j : Nat, j ≤ nl ∧ v7 = .int .i64 j ∧ Hid (Below w.heap.size w wr) ∧ Hid (Below w1.heap.size w1 wr)) (fun i _ => nl - (intOf i).toNat)
  case atStart => exact ⟨0, by omega, rfl, HB4, HB14⟩
  case round =>
    obtain ⟨j, hj, rfl, HBQ, HBQ1⟩ := hrel
    have HVQ := Lib.hid (HV.out.below HBQ.out)
    have HRQ := Lib.hid (HR.out.below HBQ.out)
    by_cases hlt : j < nl
    · have hjl : j < V.F.length := by have := HNL.out; omega
      have hjr : j < R.F.length := by have := HRL.out; omega
      have hnk := HROW.out.2
      obtain ⟨nb, nof, rfl, d0⟩ := text_cell (HROW.out.1.keep (Nat.le_refl _) HBQ1.out) (show j < (namesF V.F).length by unfold namesF; rw [List.length_map]; exact hjl)
      obtain ⟨f, hf⟩ : ∃ f, f = V.F[j] := ⟨_, rfl⟩
      have hfm : f ∈ V.F := by rw [hf]; exact List.getElem_mem _
      have hfn : (namesF V.F)[j]'(by unfold namesF; rw [List.length_map]; exact hjl) = f.name := by rw [hf]; simp [namesF]
      rw [hfn] at d0
      have hlk : lkF V.F f.name = f := by unfold lkF; rw [look_some HVQ.out.core.one hfm]; rfl
      have hlks : (lookF V.F f.name).isSome = true := by rw [look_some HVQ.out.core.one hfm]; rfl
      have HRD := Lib.hid (read_any B a V f.name _ HVQ.out (by have := HVQ.out.name f hfm; omega))
      have HLK := Lib.hid hlk
      have HLS := Lib.hid hlks
      obtain ⟨rb, rof, hAe, _, e1, _⟩ := file_cells HRQ.out.row hjr
      obtain ⟨rf, hrf⟩ : ∃ rf, rf = R.F[j] := ⟨_, rfl⟩
      rw [← hrf] at e1
      have hrfm : rf ∈ R.F := by rw [hrf]; exact List.getElem_mem _
      have HRF := Lib.hid (HRQ.out.files rf hrfm)
      have HBS := Lib.hid (show rf.bs = f.bs by rw [hrf, hf]; exact (HI.out.bytes hjr hjl).1)
      have e2 := HRQ.out.blk.cell 2
      simp at e2
      obtain ⟨rn, hrn⟩ : ∃ rn, rn = R.n := ⟨_, rfl⟩
      have hrl2 : j < rn := by rw [hrn, HRQ.out.len]; exact hjr
      have hrc : rn ≤ R.c := by rw [hrn]; exact HRQ.out.cap
      have hr9 : rn ≤ 200 := by rw [hrn, HRQ.out.len]; have := HRL.out; omega
      rw [← hrn, show R.A = _ from hAe] at e2
      have HE1 := Lib.hid e1
      have HE2 := Lib.hid e2
      obtain ⟨qs, hqs⟩ : ∃ qs, qs = strOfNums f.bs := ⟨_, rfl⟩
      have HQS := Lib.hid hqs
      have hj0 : (0 : Int) ≤ (j : Int) := by omega
      have hj1 : (j : Int) < (nl : Int) := by omega
      have hj2 : (j : Int) < (rn : Int) := by omega
      clear hf hfm hfn hlk hlks hAe hrf hrfm hrn e1 e2 hqs
      go_upto_region 9 with (go_at_call 20; refine HRD.out.mono ?_; rintro e w30 hq; obtain ⟨D9, n9, k9, rfl, ho9, hn9', _, hb10⟩ := hq; rw [HLK.out] at hn9' ho9; rw [HLS.out]; have HN9 := Lib.hid hn9'; have HO9 := Lib.hid ho9; have HB30 := Lib.hid hb10; clear ho9 hn9' hb10)
      have hcv : ∀ z, Sem.run Try.prog (convert 31 9 (.slice D9 n9 k9)) (w30.drewN z) = .ok (.string qs) (w30.drewN z) := fun z => by
        obtain ⟨A8, c8, e, hrow, _⟩ := own_slice HO9.out
        cases e
        rw [HQS.out]; exact conv_bs (row_dr hrow z) HN9.out
      have hcr : ∀ z, Sem.run Try.prog (convert 31 9 (.slice rf.A rf.n rf.c)) (w30.drewN z) = .ok (.string qs) (w30.drewN z) := fun z => by
        rw [HQS.out, ← HBS.out]
        exact conv_bs (row_dr ((HRF.out.below HB30.out).row) z) HRF.out.len
      have g1 := cell_on HB30.out HE1.out
      have g2 := cell_on HB30.out HE2.out
      have HBQ2 := Lib.hid (fun z => And.intro (below_drewN (bthen HBQ.out HB30.out) z) (below_drewN (bthen HBQ1.out HB30.out) z))
      clear d0
      go_quiet (fail)
      go_wp2_with fail
      go_roundw
      case rel => exact ⟨j + 1, by omega, by go_num, Lib.hid (HBQ2.out _).1, Lib.hid (HBQ2.out _).2⟩
      case measure => simp [intOf]; omega
    · obtain rfl : j = nl := by omega
      have hge : ¬ (j : Int) < (j : Int) := by omega
      clear hlt
      go_wp2_with fail
      go_ret
      exact ⟨rfl, HBQ.out⟩
end Go.Proofs.Ytaahomohhagcoaa
