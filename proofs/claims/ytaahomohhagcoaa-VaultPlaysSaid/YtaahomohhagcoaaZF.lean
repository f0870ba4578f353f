/- The document's Rename, Append. -/
import Derived.Test.YtaahomohhagcoaaZE
namespace Go.Proofs.Ytaahomohhagcoaa
open Go.RowKit Go.Maps Go.Shelf Go.Lib
set_option linter.unusedSimpArgs false
set_option linter.unusedVariables false
set_option maxRecDepth 100000 in
set_option maxHeartbeats 8000000 in
theorem rrename_any (a : Nat) (R : RV) (P : VZ) (s t : ByteArray) (w : World) (h : RRep w a R) (hi : RIs R P) (hp : PInv P) (ht : t.size ≤ 9223372036854775807) : Calls Try.prog 33 #[.pointer (some ⟨a, 0, none⟩), .string s, .string t] w (RActP w a R (renameS P s t)) := by
  have HH := Lib.hid h
  have HI := Lib.hid hi
  have HP := Lib.hid hp
  have hfd := find_is h hi hp s
  have HO := Lib.hid (hi.one hp)
  have hlk := hi.look s
  obtain ⟨qn, hqn⟩ : ∃ q, q = nameB t := ⟨_, rfl⟩
  have HNA := Lib.hid (show ∀ W, Calls Try.prog 48 #[.string t] W fun e w' => e = .returned (.bool qn) ∧ W = w' from fun W => by rw [hqn]; exact name_any t W ht)
  have HQN := Lib.hid hqn
  cases hl : lookF R.F s with
  | none =>
    rw [hl] at hfd hlk
    have HFD := Lib.hid hfd
    have HS := Lib.hid (show renameS P s t = (P, 31) by unfold renameS; rw [hlk]; split <;> rfl)
    clear h hi hp hfd hlk hl hqn
    go_enter Try.func33, Try.ntmps33
    go_wp2_with (first
      | (go_at_call 41; refine HFD.out.mono ?_; rintro e w2 ⟨rfl, m2, hm2⟩; have HM2 := Lib.hid hm2; clear hm2)
      | (go_at_call 48; refine (HNA.out _).mono ?_; rintro e w3 ⟨rfl, rfl⟩))
    go_ret
    refine ⟨R, by rw [HS.out]; rfl, by rw [HS.out]; exact HI.out, by rw [HM2.out]; exact HH.out.drews, by rw [HM2.out]; exact (Fr.refl _ _).drew _, fun i hx => .inl hx⟩
  | some f =>
    obtain ⟨u, hu⟩ : ∃ u, u = upto (namesF R.F) s := ⟨_, rfl⟩
    have hsome : (lookF R.F s).isSome = true := by rw [hl]; rfl
    rw [hsome, ← hu] at hfd
    rw [hl] at hlk
    have HFD := Lib.hid hfd
    have hla := look_at (hi.one hp) hl
    rw [← hu] at hla
    obtain ⟨hul, hfu⟩ := hla
    have HUL := Lib.hid hul
    have HFU := Lib.hid (show ∀ h : u < R.F.length, R.F[u]'h = f from fun _ => hfu)
    have HU := Lib.hid hu
    have HSM := Lib.hid hsome
    have hfm := (look_name hl).2
    have HFM := Lib.hid hfm
    cases qn with
    | false =>
      have HS := Lib.hid (show renameS P s t = (P, 31) by unfold renameS; rw [if_pos hqn.symm])
      clear h hi hp hfd hlk hl hsome hu hul hfu hfm hqn
      go_enter Try.func33, Try.ntmps33
      go_wp2_with (first
        | (go_at_call 41; refine HFD.out.mono ?_; rintro e w2 ⟨rfl, m2, hm2⟩; have HM2 := Lib.hid hm2; clear hm2)
        | (go_at_call 48; refine (HNA.out _).mono ?_; rintro e w3 ⟨rfl, rfl⟩))
      go_ret
      refine ⟨R, by rw [HS.out]; rfl, by rw [HS.out]; exact HI.out, by rw [HM2.out]; exact HH.out.drews, by rw [HM2.out]; exact (Fr.refl _ _).drew _, fun i hx => .inl hx⟩
    | true =>
    have HS := Lib.hid (show renameS P s t = if brkZ (actZ P) then (actZ P, 272) else (putZ (dropZ (actZ P) s) { normF f with name := t }, 0) by unfold renameS; rw [if_neg (by rw [← hqn]; simp), hlk]; rfl)
    have HBU := Lib.hid (fun m => burnt_any a R P (w.drewN m) h.drews hi hp.fuse)
    clear h hi hp hfd hlk hl hsome hu hul hfu hfm hqn
    go_enter Try.func33, Try.ntmps33
    go_upto_region 5 with (first
      | (go_at_call 41; refine HFD.out.mono ?_; rintro e w2 ⟨rfl, m2, hm2⟩; have HM2 := Lib.hid hm2; clear hm2)
      | (go_at_call 48; refine (HNA.out _).mono ?_; rintro e w3 ⟨rfl, rfl⟩))
    have hbu := HBU.out m2
    rw [← HM2.out] at hbu
    obtain ⟨q, hq⟩ : ∃ q, q = brkZ (actZ P) := ⟨_, rfl⟩
    have HB2 := Lib.hid hbu
    have HQ := Lib.hid hq
    clear hbu hq
    go_upto_region 6 with (go_at_call 49; refine HB2.out.mono ?_; rintro e w3 ⟨he, hi3, hr3, hf3⟩; obtain rfl : e = .returned (.bool q) := (he.trans (by rw [HQ.out])); have HI3 := Lib.hid hi3; have HR3 := Lib.hid hr3; have HF3 := Lib.hid (show Fr (fun i => i = a) w w3 from by (rw [HM2.out] at hf3; exact hf3.undrew)); clear he hi3 hr3 hf3)
    cases q with
    | true =>
      go_wp2_with fail
      go_ret
      exact ⟨_, by rw [HS.out, if_pos HQ.out.symm]; rfl, by rw [HS.out, if_pos HQ.out.symm]; exact HI3.out, HR3.out, HF3.out, fun i hx => .inl hx⟩
    | false =>
      have c2 := HR3.out.blk.cell 2
      simp at c2
      obtain ⟨n, hn⟩ : ∃ n, n = R.n := ⟨_, rfl⟩
      have hun : u < n := by rw [hn, HR3.out.len]; exact HUL.out
      have hnc : n ≤ R.c := by rw [hn]; exact HR3.out.cap
      have hn9 : n ≤ 200 := by rw [hn, HR3.out.len]; exact HI.out.len2 HP.out
      obtain ⟨b, off, hAe, d0, d1, d2⟩ := file_cells HR3.out.row HUL.out
      rw [← hn, show R.A = _ from hAe] at c2
      have hfu := HFU.out HUL.out
      simp only [hfu] at d0 d1 d2
      have hu0 : (0 : Int) ≤ (u : Int) := by omega
      have hun1 : (u : Int) < (n : Int) := by omega
      obtain ⟨w4, hw4⟩ : ∃ w4, w4 = w3.alloc (.cells #[.string f.name, .slice f.A f.n f.c, .int .i64 f.safe] 66) := ⟨_, rfl⟩
      have hb4 : Below w3.heap.size w3 w4 := by rw [hw4]; exact bpush (Below.refl _ _) _
      obtain ⟨g, hg⟩ : ∃ g, g = w3.heap.size := ⟨_, rfl⟩
      have HK4 := Lib.hid (show Blk w4 g 66 #[.string f.name, .slice f.A f.n f.c, .int .i64 f.safe] by rw [hw4, hg]; exact Blk.new _ _ _)
      have HW4 := Lib.hid hw4
      have HB4 := Lib.hid hb4
      have HG := Lib.hid hg
      have hr4 := HR3.out.below hb4
      have HR4 := Lib.hid hr4
      have hga : g ≠ a := by have := HR3.out.blk.lt; omega
      have HGA := Lib.hid hga
      have HDR := Lib.hid (rdrop_any a u { R with fuse := fuseI (actZ P) } w4 hr4 HUL.out (by have := HI.out.len2 HP.out; show R.F.length ≤ _; omega))
      clear hn hAe hw4 hb4 hg hfu hr4 hga
      go_upto_region 9 with fail
      rw [← HW4.out]
      rw [← HG.out]
      clear c2 d0 d1 d2
      go_upto_region 10 with (go_at_call 51; refine HDR.out.mono ?_; rintro e w5 hq; rw [HU.out] at hq; obtain ⟨rfl, R5, hi5, hr5, hF5, hf5, hx5⟩ := drop_post (R := { R with fuse := fuseI (actZ P) }) HI3.out HO.out HSM.out hq; have HI5 := Lib.hid hi5; have HR5 := Lib.hid hr5; have HFF5 := Lib.hid hF5; have HF5 := Lib.hid hf5; have HX5 := Lib.hid hx5; clear hq hi5 hr5 hF5 hf5 hx5)
      have HK5 := Lib.hid (show Blk w5 g 66 #[.string f.name, .slice f.A f.n f.c, .int .i64 f.safe] from (HF5.out.block _ HK4.out.lt HGA.out).trans HK4.out)
      have b0 : w5.cell? ⟨g, 0, none⟩ = some (.string f.name) := by simpa using HK5.out.cell 0
      have b3 := HK5.out.frozen 0
      obtain ⟨w6, hw6⟩ : ∃ w6, w6 = w5.setCell ⟨g, 0, none⟩ (.string t) := ⟨_, rfl⟩
      have HK6 := Lib.hid (show Blk w6 g 66 #[.string t, .slice f.A f.n f.c, .int .i64 f.safe] by rw [hw6]; exact HK5.out.set_ 0 _)
      have hf6 : Fr (fun i => i = g) w5 w6 := by rw [hw6]; exact (Fr.refl (fun i => i = g) w5).set_ (.inl (show g = g from rfl)) _
      have hgf : ∀ i, RFoot a R5 i → ¬ i = g := fun i hi e => by
        rcases hi with h | h
        · exact HGA.out (e.symm.trans h)
        · rcases HX5.out i h with h | h
          · have := HR3.out.lt (.inr h); have := HG.out; omega
          · have := HK4.out.lt; omega
      have HR6 := Lib.hid (HR5.out.fr hf6 hgf)
      have hok : FileOk w6 { f with name := t } := by
        have h1 : FileOk w5 f := (HR4.out.files f HFM.out).fr HF5.out fun hne b o e => HR4.out.file_far HFM.out b o hne e
        exact { h1.fr hf6 fun hne b o e => (fun e2 => by have := HR3.out.lt (.inr (.inr ⟨f, HFM.out, hne, o, e⟩)); have := HG.out; omega) with }
      have HST := Lib.hid (rset_any a R5 { f with name := t } w6 HR6.out (by rw [HFF5.out]; exact one_drop HO.out s) (by rw [HFF5.out]; have := len_drop R.F s; have := HI.out.len2 HP.out; show (dropF R.F s).length ≤ 1000; omega) hok (fun b o h1 h2 => HR4.out.file_far HFM.out b o h1 h2))
      have HW6 := Lib.hid hw6
      have HF6 := Lib.hid hf6
      clear hw6 hf6 hgf hok
      go_upto_region 11 with fail
      rw [← HW6.out]
      clear b0 b3
      have b0 : w6.cell? ⟨g, 0, none⟩ = some (.string t) := by simpa using HK6.out.cell 0
      have b1 : w6.cell? ⟨g, 1, none⟩ = some (.slice f.A f.n f.c) := by simpa using HK6.out.cell 1
      have b2 : w6.cell? ⟨g, 2, none⟩ = some (.int .i64 f.safe) := by simpa using HK6.out.cell 2
      go_wp2_with (go_at_call 50; refine HST.out.mono ?_; rintro e w7 hq; obtain ⟨rfl, R7, hi7, hr7, hf7, hx7⟩ := set_post HI5.out (by rw [HFF5.out]; exact one_drop HO.out s) hq; have HI7 := Lib.hid hi7; have HR7 := Lib.hid hr7; have HF7 := Lib.hid hf7; have HX7 := Lib.hid hx7; clear hq hi7 hr7 hf7 hx7)
      go_ret
      have hk : ¬ (brkZ (actZ P) = true) := by rw [← HQ.out]; simp
      have h06 : Fr (fun i => i = a) w w6 := by
        have h1 := (HF3.out.trans (Fr.of_below HB4.out)).trans HF5.out
        refine ⟨HF6.out.os.trans h1.os, HF6.out.tape.trans h1.tape, HF6.out.output.trans h1.output, Nat.le_trans h1.size HF6.out.size, fun i hi hs => ?_⟩
        have hil : i < w5.heap.size := Nat.lt_of_lt_of_le hi h1.size
        exact (HF6.out.block i hil (by have := HF3.out.size; have := HG.out; omega)).trans (h1.block i hi hs)
      refine ⟨R7, by rw [HS.out, if_neg hk]; rfl, by rw [HS.out, if_neg hk]; exact HI7.out, HR7.out, h06.trans HF7.out, fun i hx => ?_⟩
      rcases HX7.out i hx with h | h | ⟨h1, h2⟩
      · rcases HX5.out i h with h | h
        · exact .inl h
        · exact .inr (Nat.le_trans HF3.out.size (Nat.le_trans HB4.out.size h))
      · exact .inr (Nat.le_trans h06.size h)
      · exact .inl (.inr ⟨f, HFM.out, h1, h2⟩)
theorem own_fr2 {w w' : World} {B : Nat} {e : TypeId} {s n : Nat} {v : Value} {xs : List Value} {S : Nat → Prop} (h : w.ownsRow B e s v n xs) (hf : Fr S w w') (hs : ∀ b, v.ownBlock = some b → ¬ S b) : w'.ownsRow B e s v n xs := by
  obtain ⟨h1, h2⟩ := h
  refine ⟨h1, ?_⟩
  rcases h2 with h2 | ⟨g, cap, cur, e1, e2, e3, r⟩
  · exact .inl h2
  · refine .inr ⟨g, cap, cur, e1, e2, ?_, r⟩
    have hlt : g < w.heap.size := (Array.getElem?_eq_some_iff.1 e3).1
    exact (hf.block g hlt (hs g (by rw [e1]; rfl))).trans e3
theorem free_is {w : World} {a : Nat} {R : RV} {P : VZ} (h : RRep w a R) (hi : RIs R P) (hp : PInv P) (fr : Nat) (hfr : fr = P.room - usedF P.F) : Calls Try.prog 39 #[.pointer (some ⟨a, 0, none⟩)] w fun e w' => e = .returned (.int .i64 (fr : Int)) ∧ w = w' :=
  rfree_any a R w h (by rw [hi.used, hi.room]; exact hp.used) (by rw [hi.room]; exact hp.room) (by have := hi.len2 hp; omega) _ (by rw [hi.used, hi.room]; have := hp.used; omega)
theorem act_inv {P : VZ} (hp : PInv P) : PInv (actZ P) :=
  ⟨by rw [act_F]; exact hp.one, by rw [act_F, act_room]; exact hp.used, by rw [act_room]; exact hp.room, by rw [act_F]; exact hp.len, by unfold actZ; split; exact Nat.le_trans (Nat.sub_le _ _) hp.fuse; exact hp.fuse, by rw [act_F]; exact hp.name, by rw [act_F]; exact hp.safe⟩
theorem lk_same {R : RV} {P : VZ} (h : RIs R P) (s : ByteArray) : lkF P.F s = normF (lkF R.F s) := by rw [← h.F, norm_lk]
theorem lk_nm (F : List FZ) (s : ByteArray) : (lkF F s).name = s := by
  unfold lkF
  cases hl : lookF F s with
  | none => rfl
  | some f => exact (look_name hl).1
theorem lk_ok {w : World} {a : Nat} {R : RV} (h : RRep w a R) (s : ByteArray) : FileOk w (lkF R.F s) ∧ ∀ b o, (lkF R.F s).bs ≠ [] → (lkF R.F s).A = some ⟨b, o, none⟩ → b ≠ a := by
  unfold lkF
  cases hl : lookF R.F s with
  | none => exact ⟨⟨.inl rfl, rfl, Nat.le_refl _, fun _ => rfl⟩, fun b o hne _ => absurd rfl hne⟩
  | some f => exact ⟨h.files f (look_name hl).2, h.file_far (look_name hl).2⟩
set_option maxRecDepth 100000 in
set_option maxHeartbeats 8000000 in
theorem rappend_any (a : Nat) (R : RV) (P : VZ) (s : ByteArray) (Ab : Option Addr) (nb cb : Nat) (bs : List Int) (w : World) (h : RRep w a R) (hi : RIs R P) (hp : PInv P) (hs : s.size ≤ 9223372036854775807) (hrow : Row w Ab (u8s bs)) (hnb : nb = bs.length) (hcb : nb ≤ cb) (hab : Ab = none → cb = 0) (hn2 : nb ≤ 9223372036854775807) (hx : bs ≠ [] → ∀ b o, Ab = some ⟨b, o, none⟩ → b ≠ a) :
    Calls Try.prog 31 #[.pointer (some ⟨a, 0, none⟩), .string s, .slice Ab nb cb] w (RActP w a R (appendS P s bs)) := by
  have HH := Lib.hid h
  have HI := Lib.hid hi
  have HP := Lib.hid hp
  have HO := Lib.hid (hi.one hp)
  have HROW := Lib.hid hrow
  have HNB := Lib.hid hnb
  have HCB := Lib.hid hcb
  have HAB := Lib.hid hab
  have HXX := Lib.hid hx
  obtain ⟨qn, hqn⟩ : ∃ q, q = nameB s := ⟨_, rfl⟩
  have HNA := Lib.hid (show Calls Try.prog 48 #[.string s] w fun e w' => e = .returned (.bool qn) ∧ w = w' by rw [hqn]; exact name_any s w hs)
  have HBU := Lib.hid (burnt_any a R P w h hi hp.fuse)
  cases qn with
  | false =>
    have HS := Lib.hid (show appendS P s bs = (P, 31) by unfold appendS; rw [if_pos hqn.symm])
    clear h hi hp hs hrow hnb hcb hab hn2 hx hqn
    go_enter Try.func31, Try.ntmps31
    go_wp2_with (go_at_call 48; refine HNA.out.mono ?_; rintro e w3 ⟨rfl, rfl⟩)
    go_ret
    exact ⟨R, by rw [HS.out]; rfl, by rw [HS.out]; exact HI.out, HH.out, Fr.refl _ _, fun i hx => .inl hx⟩
  | true =>
  have HS := Lib.hid (show appendS P s bs = if brkZ (actZ P) then (actZ P, 272) else if fullZ P s bs.length then (actZ P, 32) else (putZ (actZ P) (addF (lkF P.F s) bs), 0) by unfold appendS; rw [if_neg (by rw [← hqn]; simp)])
  obtain ⟨q, hq⟩ : ∃ q, q = brkZ (actZ P) := ⟨_, rfl⟩
  have HQ := Lib.hid hq
  clear h hi hp hs hrow hnb hcb hab hx hqn hq
  go_enter Try.func31, Try.ntmps31
  go_upto_region 5 with (first
    | (go_at_call 48; refine HNA.out.mono ?_; rintro e w3 ⟨rfl, rfl⟩)
    | (go_at_call 49; refine HBU.out.mono ?_; rintro e w3 ⟨he, hi3, hr3, hf3⟩; obtain rfl : e = .returned (.bool q) := (he.trans (by rw [HQ.out])); have HI3 := Lib.hid hi3; have HR3 := Lib.hid hr3; have HF3 := Lib.hid hf3; clear he hi3 hr3 hf3))
  cases q with
  | true =>
    go_wp2_with fail
    go_ret
    exact ⟨_, by rw [HS.out, if_pos HQ.out.symm]; rfl, by rw [HS.out, if_pos HQ.out.symm]; exact HI3.out, HR3.out, HF3.out, fun i hx => .inl hx⟩
  | false =>
  have hk : ¬ (brkZ (actZ P) = true) := by rw [← HQ.out]; simp
  have HS2 := Lib.hid (HS.out.trans (if_neg hk))
  have HFD := Lib.hid (find_is HR3.out HI3.out (act_inv HP.out) s)
  obtain ⟨u, hu⟩ : ∃ u, u = upto (namesF R.F) s := ⟨_, rfl⟩
  obtain ⟨qs, hqs⟩ : ∃ q, q = (lookF R.F s).isSome := ⟨_, rfl⟩
  have HFD := Lib.hid (show Calls Try.prog 41 #[.pointer (some ⟨a, 0, none⟩), .string s] w3 fun e w' => (e = .returned (.tuple #[.int .i64 (u : Nat), .bool qs]) ∧ ∃ m, w' = w3.drewN m) by rw [hu, hqs]; exact HFD.out)
  have HU := Lib.hid hu
  have HQS := Lib.hid hqs
  clear hk hu hqs
  go_upto_region 8 with (go_at_call 41; refine HFD.out.mono ?_; rintro e w4 ⟨rfl, m4, hm4⟩; have HM4 := Lib.hid hm4; clear hm4)
  have HR4 := Lib.hid (show RRep w4 a { R with fuse := fuseI (actZ P) } by rw [HM4.out]; exact HR3.out.drews)
  have HF4 := Lib.hid (show Fr (fun i => i = a) w w4 by rw [HM4.out]; exact HF3.out.drew _)
  obtain ⟨fr, hfr⟩ : ∃ fr, fr = P.room - usedF P.F := ⟨_, rfl⟩
  have HFR := Lib.hid (free_is HR4.out HI3.out (act_inv HP.out) fr (by rw [act_room, act_F]; exact hfr))
  obtain ⟨n, hn⟩ : ∃ n, n = R.n := ⟨_, rfl⟩
  have HNL := Lib.hid (show n = R.F.length by rw [hn]; exact HR4.out.len)
  have hn9 : n ≤ 200 := by rw [HNL.out]; exact HI.out.len2 HP.out
  have c2 := HR4.out.blk.cell 2
  simp at c2
  rw [← hn] at c2
  have HNC := Lib.hid (show n ≤ R.c by rw [hn]; exact HR4.out.cap)
  have HFU := Lib.hid (show fullZ P s bs.length ↔ fr < nb ∨ (qs = false ∧ 200 ≤ n) by
    unfold fullZ
    rw [← hfr, ← HNB.out, HQS.out, HNL.out, HI.out.len, HI.out.look s]
    cases lookF R.F s <;> simp)
  have HFRL := Lib.hid (show fr ≤ 16777216 by rw [hfr]; have := HP.out.room; omega)
  clear hfr hn
  obtain ⟨fl, hfl⟩ := bool_of (fullZ P s bs.length)
  have HFL := Lib.hid hfl
  clear hfl
  go_cut [41] (fun sl wx => sl = .bool fl ∧ wx = w4)
  case first =>
    by_cases k : fr < nb
    · have k1 : (fr : Int) < (nb : Int) := by omega
      have e : fl = true := HFL.out.2 (HFU.out.2 (.inl k))
      clear k
      go_wp2_with (go_at_call 39; refine HFR.out.mono ?_; rintro e w5 ⟨rfl, rfl⟩)
      go_meet
      case rel => exact ⟨by rw [e], rfl⟩
    · have k1 : ¬ (fr : Int) < (nb : Int) := by omega
      cases qs with
      | true =>
        have e : fl = false := by rw [Bool.eq_false_iff]; intro h; rcases HFU.out.1 (HFL.out.1 h) with h | ⟨h, _⟩ <;> first | exact k h | cases h
        clear k
        go_wp2_with (go_at_call 39; refine HFR.out.mono ?_; rintro e w5 ⟨rfl, rfl⟩)
        go_meet
        case rel => exact ⟨by rw [e]; simp; omega, rfl⟩
      | false =>
        by_cases k2 : 200 ≤ n
        · have k3 : (200 : Int) ≤ (n : Int) := by omega
          have e : fl = true := HFL.out.2 (HFU.out.2 (.inr ⟨rfl, k2⟩))
          clear k k2
          go_wp2_with (go_at_call 39; refine HFR.out.mono ?_; rintro e w5 ⟨rfl, rfl⟩)
          go_meet
          case rel => exact ⟨by rw [e], rfl⟩
        · have k3 : ¬ (200 : Int) ≤ (n : Int) := by omega
          have e : fl = false := by rw [Bool.eq_false_iff]; intro h; rcases HFU.out.1 (HFL.out.1 h) with h | ⟨_, h⟩ <;> first | exact k h | exact k2 h
          clear k k2
          go_wp2_with (go_at_call 39; refine HFR.out.mono ?_; rintro e w5 ⟨rfl, rfl⟩)
          go_meet
          case rel => exact ⟨by rw [e]; simp; omega, rfl⟩
  case rest =>
  obtain ⟨rfl, rfl⟩ := hcut
  cases fl with
  | true =>
    have hf := HFL.out.1 rfl
    have HFF := Lib.hid hf
    clear hf
    go_wp2_with fail
    go_ret
    exact ⟨_, by rw [HS2.out, if_pos HFF.out]; rfl, by rw [HS2.out, if_pos HFF.out]; exact HI3.out, HR4.out, HF4.out, fun i hx => .inl hx⟩
  | false =>
  obtain ⟨wo, rfl⟩ : ∃ wo : World, wo = wc := ⟨_, rfl⟩
  have HNF := Lib.hid (show ¬ fullZ P s bs.length from fun h => by have := HFL.out.2 h; cases this)
  have hnb9 : nb ≤ 16777216 := by
    have h1 : ¬ fr < nb := fun h => HNF.out (HFU.out.2 (.inl h))
    have := HFRL.out; omega
  obtain ⟨f0, hf0⟩ : ∃ f0, f0 = lkF R.F s := ⟨_, rfl⟩
  have hlo := lk_ok HR4.out s
  have hlo : FileOk wo f0 ∧ ∀ b o, f0.bs ≠ [] → f0.A = some ⟨b, o, none⟩ → b ≠ a := by rw [hf0]; exact hlo
  have HLO := Lib.hid hlo
  have hn0 : f0.n ≤ 16777216 := by
    have h1 := used_drop (s := s) HO.out
    have h2 : f0.n = ((lookF R.F s).map FZ.n).getD 0 := by rw [hf0]; unfold lkF; cases lookF R.F s <;> rfl
    have h3 := HI.out.used
    have h4 := HP.out.used
    have h5 := HP.out.room
    omega
  have HF0 := Lib.hid hf0
  have HZ0 := Lib.hid (show qs = false → f0 = ⟨s, none, 0, 0, 0, []⟩ from fun e => by
    rw [HQS.out] at e
    rw [hf0]; unfold lkF
    cases hl : lookF R.F s with
    | none => rfl
    | some f => rw [hl] at e; cases e)
  have HU0 := Lib.hid (show qs = true → u < R.F.length ∧ ∀ h : u < R.F.length, R.F[u]'h = f0 from fun e => by
    rw [HQS.out] at e
    obtain ⟨f, hl⟩ := Option.isSome_iff_exists.1 e
    obtain ⟨h1, h2⟩ := look_at HO.out hl
    rw [HU.out]
    exact ⟨h1, fun _ => by rw [h2, hf0]; unfold lkF; rw [hl]; rfl⟩)
  have HNM := Lib.hid (show f0.name = s by rw [hf0]; exact lk_nm _ _)
  obtain ⟨w5, hw5⟩ : ∃ w5, w5 = wo.alloc (.cells #[.string s, .slice none 0 0, .int .i64 0] 66) := ⟨_, rfl⟩
  obtain ⟨g, hg⟩ : ∃ g, g = wo.heap.size := ⟨_, rfl⟩
  have HB5 := Lib.hid (show Below wo.heap.size wo w5 by rw [hw5]; exact bpush (Below.refl _ _) _)
  have HK5 := Lib.hid (show Blk w5 g 66 #[.string s, .slice none 0 0, .int .i64 0] by rw [hw5, hg]; exact Blk.new _ _ _)
  have HW5 := Lib.hid hw5
  have HG := Lib.hid hg
  have HGA := Lib.hid (show g ≠ a by have := HR4.out.blk.lt; omega)
  clear hf0 hlo hw5 hg
  go_upto_if 44 with fail
  rw [← HW5.out]
  rw [← HG.out]
  go_cut [] (fun wx => Hid (Blk wx g 66 #[.string s, .slice f0.A f0.n f0.c, .int .i64 f0.safe]) ∧ Hid (Below wo.heap.size wo wx))
  case first =>
    cases qs with
    | false =>
      have hz := HZ0.out rfl
      go_wp2_with fail
      go_meet
      case rel => exact ⟨by rw [hz]; exact HK5, HB5⟩
    | true =>
      obtain ⟨hul, hfu⟩ := HU0.out rfl
      have hfu := hfu hul
      obtain ⟨b, off, hAe, d0, d1, d2⟩ := file_cells HR4.out.row hul
      have c3 := cell_on HB5.out c2
      rw [show R.A = _ from hAe] at c3
      have e0 := cell_on HB5.out d0
      have e1 := cell_on HB5.out d1
      have e2 := cell_on HB5.out d2
      simp only [hfu] at e0 e1 e2
      rw [HNM.out] at e0
      have hun : u < n := by have := HNL.out; omega
      have hu0 : (0 : Int) ≤ (u : Int) := by omega
      have hun1 : (u : Int) < (n : Int) := by omega
      have hnc := HNC.out
      have b0 := HK5.out.cell 0
      have b1 := HK5.out.cell 1
      have b2 := HK5.out.cell 2
      have g0 := HK5.out.frozen 0
      have g1 := HK5.out.frozen 1
      have g2 := HK5.out.frozen 2
      simp at b0 b1 b2
      obtain ⟨w6, hw6⟩ : ∃ w6, w6 = ((w5.setCell ⟨g, 0, none⟩ (.string s)).setCell ⟨g, 1, none⟩ (.slice f0.A f0.n f0.c)).setCell ⟨g, 2, none⟩ (.int .i64 f0.safe) := ⟨_, rfl⟩
      have HK6 := Lib.hid (show Blk w6 g 66 #[.string s, .slice f0.A f0.n f0.c, .int .i64 f0.safe] by rw [hw6]; exact ((HK5.out.set_ 0 _).set_ 1 _).set_ 2 _)
      have HB6 := Lib.hid (show Below wo.heap.size wo w6 by rw [hw6]; have := HG.out; exact bset (bset (bset HB5.out (by omega) _) (by omega) _) (by omega) _)
      have HW6 := Lib.hid hw6
      clear hw6 hfu d0 d1 d2 hAe c2
      go_wp2_with fail
      rw [← HW6.out]
      go_meet
      case rel => exact ⟨HK6, HB6⟩
  case rest =>
  obtain ⟨HK7, HB7⟩ := hcut
  have hrw : Row wo Ab (u8s bs) := HROW.out.fr' HF4.out fun hne b o e => HXX.out (fun e2 => hne (by rw [e2]; rfl)) b o e
  have HRB := Lib.hid (fun W (hb : Below wc.heap.size wc W) => hrw.keep (Nat.le_refl _) (bthen HB7.out hb))
  have HRF := Lib.hid (fun W (hb : Below wc.heap.size wc W) => HLO.out.1.row.keep (Nat.le_refl _) (bthen HB7.out hb))
  have HE1 := Lib.hid (show (0 + f0.n) * 1 ≤ 140737488355328 by omega)
  have HE2 := Lib.hid (show (f0.n + nb) * 1 ≤ 140737488355328 by omega)
  have HKC := Lib.hid (fun W (h : Blk W g 66 #[.string s, .slice f0.A f0.n f0.c, .int .i64 f0.safe]) => (show W.cell? ⟨g, 1, none⟩ = some (.slice f0.A f0.n f0.c) ∧ W.frozen? ⟨g, 1, none⟩ = false from ⟨by simpa using h.cell 1, h.frozen 1⟩))
  have HSZW := Lib.hid (show wc.heap.size ≤ (wc.alloc (.cells #[] 5)).heap.size by simp)
  have HL0 := Lib.hid HLO.out.1.len
  have HC0 := Lib.hid HLO.out.1.cap
  have HN0 := Lib.hid HLO.out.1.nil
  obtain ⟨w8, hw8⟩ : ∃ w8, w8 = wc.alloc (.cells #[] 5) := ⟨_, rfl⟩
  have hb8 : Below wc.heap.size wc w8 := by rw [hw8]; exact bpush (Below.refl _ _) _
  have HO8 := Lib.hid (show w8.ownsRow wc.heap.size 5 1 (.slice (some ⟨wc.heap.size, 0, none⟩) 0 0) 0 [] by rw [hw8]; exact own_empty (Nat.le_refl _))
  have HB8 := Lib.hid hb8
  have HW8 := Lib.hid hw8
  have b1 : (wc.alloc (.cells #[] 5)).cell? ⟨g, 1, none⟩ = some (.slice f0.A f0.n f0.c) := by
    have h : Blk (wc.alloc (.cells #[] 5)) g 66 #[.string s, .slice f0.A f0.n f0.c, .int .i64 f0.safe] := HK7.out.alloc _
    simpa using h.cell 1
  clear hrw hw8 hb8
  go_upto_region 14 with (first
    | (at_builtin; refine wpList_append_u8s rfl _ _ rfl wc.heap.size (.slice (some ⟨wc.heap.size, 0, none⟩) 0 0) 0 [] rfl f0.A f0.n f0.c f0.bs rfl (own_empty (Nat.le_refl _)) (HRF.out _ (bpush (Below.refl _ _) _)) HL0.out HC0.out HN0.out HE1.out (by simp) ?_; intro v9 w9 ho9 hg9 hd9; rw [Nat.zero_add, List.nil_append] at ho9; obtain ⟨A9, c9, rfl⟩ := own_is ho9; have HO9 := Lib.hid ho9; have HB9 := Lib.hid ((bpush (Below.refl wc.heap.size wc) _).trans (grown_own (own_empty (t := 5) (size := 1) (Nat.le_refl wc.heap.size)) hg9 HSZW.out)); clear ho9 hg9 hd9)
    | (at_builtin; refine wpList_append_u8s rfl _ _ rfl wc.heap.size (.slice A9 f0.n c9) f0.n (u8s f0.bs) rfl Ab nb cb bs rfl HO9.out (HRB.out _ HB9.out) HNB.out HCB.out HAB.out HE2.out HB9.out.size ?_; intro v10 w10 ho10 hg10 hd10; obtain ⟨A10, c10, rfl⟩ := own_is ho10; have HO10 := Lib.hid ho10; have HB10 := Lib.hid (HB9.out.trans (grown_own HO9.out hg10 HB9.out.size)); have hk10 : Blk w10 g 66 #[.string s, .slice f0.A f0.n f0.c, .int .i64 f0.safe] := (HB10.out.block _ HK7.out.lt).trans HK7.out; obtain ⟨kc, kf⟩ := HKC.out _ hk10; have HK10 := Lib.hid hk10; clear ho10 hg10 hd10 hk10))
  obtain ⟨w11, hw11⟩ : ∃ w11, w11 = w10.setCell ⟨g, 1, none⟩ (.slice A10 (f0.n + nb) c10) := ⟨_, rfl⟩
  have HK11 := Lib.hid (show Blk w11 g 66 #[.string s, .slice A10 (f0.n + nb) c10, .int .i64 f0.safe] by rw [hw11]; exact HK10.out.set_ 1 _)
  have hf11 : Fr (fun i => i = g) w10 w11 := by rw [hw11]; exact (Fr.refl (fun i => i = g) w10).set_ (.inl (show g = g from rfl)) _
  have hsz := HG.out
  have hO11 := own_fr2 (S := fun i => i = g) HO10.out hf11 (fun b hb e => by have := (HO10.out.lt b hb).1; have := HK7.out.lt; omega)
  have hbx : Below wo.heap.size wo w11 := by
    rw [hw11]
    exact bset (HB7.out.trans (HB10.out.mono HB7.out.size)) (by omega) _
  have HBX := Lib.hid hbx
  rw [← hw11]
  obtain ⟨Ax, cx, ex, hrow, hcap, hnil, hfar⟩ := own_sl hO11
  cases ex
  rw [u8s_app] at hrow
  have hr11 := HR4.out.below hbx
  have HR11 := Lib.hid hr11
  have hwc := HB7.out.size
  have hal := HR4.out.blk.lt
  have HFA := Lib.hid (fun i o (e : A10 = some ⟨i, o, none⟩) => Nat.le_trans hwc (hfar i o e))
  have HST := Lib.hid (rset_any a { R with fuse := fuseI (actZ P) } ⟨s, A10, f0.n + nb, c10, f0.safe, f0.bs ++ bs⟩ w11 hr11 HO.out (by have := HI.out.len2 HP.out; show R.F.length ≤ 1000; omega) ⟨hrow, by rw [List.length_append]; have := HLO.out.1.len; have := HNB.out; simp only; omega, hcap, hnil⟩ (fun b o _ e => by have := hfar b o e; omega))
  have HNE := Lib.hid (show normF ⟨s, A10, f0.n + nb, c10, f0.safe, f0.bs ++ bs⟩ = addF (lkF P.F s) bs by
    rw [lk_same HI.out s, ← HF0.out]
    unfold normF addF
    simp only
    rw [HNM.out, HNB.out])
  have b0 : w11.cell? ⟨g, 0, none⟩ = some (.string s) := by simpa using HK11.out.cell 0
  have b1 : w11.cell? ⟨g, 1, none⟩ = some (.slice A10 (f0.n + nb) c10) := by simpa using HK11.out.cell 1
  have b2 : w11.cell? ⟨g, 2, none⟩ = some (.int .i64 f0.safe) := by simpa using HK11.out.cell 2
  clear hbx hw11 hf11 hO11 hrow hcap hnil hfar hr11 hwc hal kc kf hsz
  go_wp2_with (go_at_call 50; refine HST.out.mono ?_; rintro e w12 hq; obtain ⟨rfl, R7, hi7, hr7, hf7, hx7⟩ := set_post (R := { R with fuse := fuseI (actZ P) }) HI3.out HO.out hq; have HI7 := Lib.hid hi7; have HR7 := Lib.hid hr7; have HF7 := Lib.hid hf7; have HX7 := Lib.hid hx7; clear hq hi7 hr7 hf7 hx7)
  go_ret
  have h0 := HF4.out.trans (Fr.of_below (S := fun i => i = a) HBX.out)
  refine ⟨R7, by rw [HS2.out, if_neg HNF.out]; rfl, by rw [HS2.out, if_neg HNF.out, ← HNE.out]; exact HI7.out, HR7.out, h0.trans HF7.out, fun i hx => ?_⟩
  rcases HX7.out i hx with h | h | ⟨_, o, h2⟩
  · exact .inl h
  · exact .inr (Nat.le_trans h0.size h)
  · exact .inr (Nat.le_trans HF4.out.size (HFA.out i o h2))
end Go.Proofs.Ytaahomohhagcoaa
