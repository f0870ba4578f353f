/- Append. -/
import Derived.Test.YthogafecplhckaaDoorVI
namespace Go.Proofs.YthogafecplhckaaDoor
open Go.RowKit Go.Maps Go.Shelf
set_option linter.unusedSimpArgs false
set_option linter.unusedVariables false
def fullZ (P : VZ) (s : ByteArray) (n : Nat) : Prop := P.room - usedF P.F < n ∨ (lookF P.F s = none ∧ 200 ≤ P.F.length)
noncomputable instance (P : VZ) (s : ByteArray) (n : Nat) : Decidable (fullZ P s n) := Classical.propDecidable _
def addF (f : FZ) (bs : List Int) : FZ := { f with n := f.n + bs.length, bs := f.bs ++ bs }
noncomputable def appendS (P : VZ) (s : ByteArray) (bs : List Int) : VZ × Int :=
  if nameB s = false then (P, 31) else if brkZ (actZ P) then (actZ P, 272) else if fullZ P s bs.length then (actZ P, 32) else (putZ (actZ P) (addF (lkF P.F s) bs), 0)
theorem norm_full (V : VZ) (s : ByteArray) (n : Nat) : fullZ (normZ V) s n ↔ fullZ V s n := by
  unfold fullZ normZ
  simp only [norm_used, norm_look, Option.map_eq_none_iff, List.length_map]
theorem Row.fr {w w' : World} {A : Option Addr} {xs : List Value} {S : Nat → Prop} (h : Row w A xs) (hf : Fr S w w') (hs : ∀ b o, A = some ⟨b, o, none⟩ → ¬ S b) : Row w' A xs := by
  rcases h with h | ⟨b, off, rfl, hc⟩
  · exact .inl h
  · refine .inr ⟨b, off, rfl, fun j u hu => ?_⟩
    have h1 := hc j u hu
    have hlt := lt_of_cell h1
    have h2 := hf.block b hlt (hs b off rfl)
    unfold World.cell? at h1 ⊢
    simp only [h2]
    exact h1
theorem own_not_core {w : World} {B a : Nat} {V : VZ} {f : FZ} (h : VCore w a V) (hf : OwnF w B f) : blkF f ≠ some a ∧ blkF f ≠ some V.b := by
  constructor
  · intro e
    obtain ⟨_, _, cs, fz, h1⟩ := hf.lt e
    have := h.blk
    unfold Blk at this
    rw [h1] at this; cases this
  · intro e
    obtain ⟨_, _, cs, fz, h1⟩ := hf.lt e
    obtain ⟨n, es, clock, h2, _⟩ := h.map
    rw [h1] at h2; cases h2
theorem lk_own {w : World} {B a : Nat} {V : VZ} (h : VRep w B a V) (s : ByteArray) : OwnF w B (lkF V.F s) ∧ bytes (lkF V.F s).bs ∧ (lkF V.F s).safe ≤ (lkF V.F s).n ∧ (lkF V.F s).name = s ∧ (∀ b, blkF (lkF V.F s) = some b → Foot a V b) ∧ ∀ g ∈ V.F, g.name ≠ s → apartF (lkF V.F s) g := by
  cases hl : lookF V.F s with
  | none =>
    have e : lkF V.F s = ⟨s, none, 0, 0, 0, []⟩ := by unfold lkF; rw [hl]; rfl
    rw [e]
    exact ⟨World.ownsRow_nil _ _ _ _, (fun x hx => by cases hx), Nat.le_refl _, rfl, (fun b hb => by cases hb), fun g _ _ b hb => by cases hb⟩
  | some f =>
    have e : lkF V.F s = f := by unfold lkF; rw [hl]; rfl
    rw [e]
    obtain ⟨h1, h2⟩ := look_name hl
    exact ⟨h.own f h2, h.byt f h2, h.safe f h2, h1, (fun b hb => .inr (.inr ⟨f, h2, hb⟩)), fun g hg hne => apart_of h.apart h2 hg (by rw [h1]; exact hne)⟩
theorem norm_addF (f : FZ) (bs : List Int) : normF (addF f bs) = addF (normF f) bs := rfl
set_option maxRecDepth 100000 in
set_option maxHeartbeats 8000000 in
theorem append_any (B a : Nat) (V : VZ) (s : ByteArray) (Ab : Option Addr) (nb cb : Nat) (bs : List Int) (w : World) (h : VRep w B a V) (hs : s.size ≤ 9223372036854775807) (hrow : Row w Ab (u8s bs)) (hnb : nb = bs.length) (hcb : nb ≤ cb) (hab : Ab = none → cb = 0) (hby : bytes bs) (hn2 : nb ≤ 9223372036854775807) (hx : bs ≠ [] → ∀ b o, Ab = some ⟨b, o, none⟩ → ¬ Foot a V b) :
    Calls Tryd.prog 10 #[.pointer (some ⟨a, 0, none⟩), .string s, .slice Ab nb cb] w (ActP w B a V (appendS (normZ V) s bs)) := by
  have HH := Lib.hid h
  have HM := Lib.hid (maybe_any s w hs)
  obtain ⟨q, hq⟩ : ∃ q, q = nameB s := ⟨_, rfl⟩
  rw [← hq] at HM
  have HQN := Lib.hid hq
  have HROW := Lib.hid hrow
  have HNB := Lib.hid hnb
  have HCB := Lib.hid hcb
  have HAB := Lib.hid hab
  have HBY := Lib.hid hby
  have HX := Lib.hid hx
  clear h hq hrow hnb hcb hab hby hx
  cases q with
  | false =>
    have HS := Lib.hid (show appendS (normZ V) s bs = (normZ V, 31) by unfold appendS; rw [if_pos HQN.out.symm])
    go_enter Tryd.func10, Tryd.ntmps10
    go_wp2_with (go_at_call 26; refine HM.out.mono ?_; rintro e w1 ⟨rfl, hb⟩; have HBB := Lib.hid hb; clear hb)
    go_ret
    exact ⟨V, by rw [HS.out]; rfl, by rw [HS.out], Left.same HH.out HBB.out⟩
  | true =>
  have HAC := Lib.hid (show ∀ w0, Below w.heap.size w w0 → Calls Tryd.prog 27 #[.pointer (some ⟨a, 0, none⟩)] w0 (ActPost w0 a V) from fun w0 hb => act_any a V w0 (HH.out.below hb).core)
  have HNS := Lib.hid (show appendS (normZ V) s bs = if brkZ (actZ V) then (actZ (normZ V), 272) else if fullZ V s bs.length then (actZ (normZ V), 32) else (putZ (actZ (normZ V)) (addF (lkF (normZ V).F s) bs), 0) by
    unfold appendS
    rw [if_neg (by rw [← HQN.out]; simp), ← norm_act, norm_brk]
    by_cases hb : brkZ (actZ V) = true
    · rw [if_pos hb, if_pos hb]
    · rw [if_neg hb, if_neg hb]
      by_cases hf : fullZ V s bs.length
      · rw [if_pos hf, if_pos ((norm_full V s _).2 hf)]
      · rw [if_neg hf, if_neg (fun k => hf ((norm_full V s _).1 k))])
  obtain ⟨er, her⟩ : ∃ er, er = errZ V := ⟨_, rfl⟩
  have HE := Lib.hid her
  have HAC2 := Lib.hid (show ∀ w0, Below w.heap.size w w0 → Calls Tryd.prog 27 #[.pointer (some ⟨a, 0, none⟩)] w0 fun e w1 => e = .returned (.int .i64 er) ∧ VCore w1 a (actZ V) ∧ Fr (fun i => i = a) w0 w1 from fun w0 hb => by rw [her]; exact HAC.out w0 hb)
  clear her HAC
  rcases err_cases V with ⟨hb, he⟩ | ⟨hb, he⟩
  · obtain rfl : er = 272 := HE.out.trans he
    have HBK := Lib.hid hb
    clear hb he
    go_enter Tryd.func10, Tryd.ntmps10
    go_wp2_with (first
      | (go_at_call 26; refine HM.out.mono ?_; rintro e w0 ⟨rfl, hb⟩; have HB0 := Lib.hid hb; clear hb)
      | (go_at_call 27; refine (HAC2.out _ HB0.out).mono ?_; rintro e w1 ⟨rfl, hv, hf⟩; have HV := Lib.hid hv; have HF := Lib.hid hf; clear hv hf))
    go_ret
    have hF : Fr (fun i => i = a) w _ := (Fr.of_below HB0.out).trans HF.out
    exact ⟨actZ V, by rw [HNS.out, if_pos HBK.out]; rfl, by rw [HNS.out, if_pos HBK.out]; exact norm_act V, Left.turn HH.out HV.out hF (act_F V) (act_b V) (act_room V)⟩
  obtain rfl : er = 0 := HE.out.trans he
  have HBK := Lib.hid (show ¬ (brkZ (actZ V) = true) by rw [hb]; simp)
  clear hb he
  obtain ⟨th, hth⟩ : ∃ th, th = (lookF V.F s).isSome := ⟨_, rfl⟩
  obtain ⟨f, hf⟩ : ∃ f, f = lkF V.F s := ⟨_, rfl⟩
  obtain ⟨fr, hfr⟩ : ∃ fr, fr = V.room - usedF V.F := ⟨_, rfl⟩
  obtain ⟨ln, hln⟩ : ∃ ln, ln = V.F.length := ⟨_, rfl⟩
  have HTH := Lib.hid hth
  have HF0 := Lib.hid hf
  have HFR := Lib.hid hfr
  have HLN := Lib.hid hln
  have hfb : fr ≤ 16777216 := by have := HH.out.core.room; omega
  have hlb : ln ≤ 200 := by have := HH.out.len; omega
  have HLO := Lib.hid (lk_own HH.out s)
  rw [← hf] at HLO
  have HFN := Lib.hid (show f.n ≤ usedF V.F by rw [hf]; exact lk_le s HH.out.core.one)
  obtain ⟨nm, fA, fn, fc, fs, fb⟩ := f
  have HLK := Lib.hid (show ∀ w1, VCore w1 a (actZ V) → (Instr.lookup 64 (.map (some V.b)) (.string s) true).run Tryd.prog w1 = .ok (.tuple #[.agg #[.slice fA fn fc, .int .i64 fs], .bool th]) w1 from fun w1 hv => by
    have := (look_run hv s hs 0).2
    rw [act_b, act_F, ← hth, ← hf] at this
    exact this)
  have HLEN := Lib.hid (show ∀ w1, VCore w1 a (actZ V) → (Builtin.len_ #[64] 3 #[.map (some V.b)]).run Tryd.prog w1 = .ok (.int .i64 (ln : Int)) w1 from fun w1 hv => by
    obtain ⟨n, hn⟩ := hv.map
    have := hn.len (t := 64) (e := 70) Tryd.underlying64 3
    rw [mapD_size, act_F, act_b, ← hln] at this
    exact this)
  have HFRE := Lib.hid (show ∀ w1, VCore w1 a (actZ V) → Calls Tryd.prog 28 #[.pointer (some ⟨a, 0, none⟩)] w1 fun e w' => e = .returned (.int .i64 (fr : Int)) ∧ Below w1.heap.size w1 w' from fun w1 hv => (free_any a (actZ V) w1 hv).mono fun e w' ⟨he, hb⟩ => ⟨by rw [he, act_F, act_room]; congr 2; have := HH.out.used; omega, hb⟩)
  clear hth hf hfr hln
  go_enter Tryd.func10, Tryd.ntmps10
  go_upto_region 8 with (first
      | (go_at_call 26; refine HM.out.mono ?_; rintro e w0 ⟨rfl, hb⟩; have HB0 := Lib.hid hb; clear hb)
      | (go_at_call 27; refine (HAC2.out _ HB0.out).mono ?_; rintro e w1 ⟨rfl, hv, hf⟩; have HV := Lib.hid hv; have HF := Lib.hid hf; clear hv hf))
  have H01 := Lib.hid (show Fr (fun i => i = a) w w1 from (Fr.of_below HB0.out).trans HF.out)
  have hlook := HLK.out w1 HV.out
  have c2 := HV.out.blk.cell 2
  rw [act_b] at c2
  simp at c2
  go_upto_region 9 with fail
  obtain ⟨w2, hw2⟩ : ∃ w2, w2 = w1.alloc (.cells #[.slice fA fn fc, .int .i64 fs] 70) := ⟨_, rfl⟩
  have hb2 : Below w1.heap.size w1 w2 := by rw [hw2]; exact bpush (Below.refl _ _) _
  have HV2 := Lib.hid (HV.out.below hb2)
  have HB2 := Lib.hid hb2
  have HK2 := Lib.hid (show Blk w2 w1.heap.size 70 #[.slice fA fn fc, .int .i64 fs] by rw [hw2]; exact Blk.new _ _ _)
  obtain ⟨g, hg⟩ : ∃ g, g = w1.heap.size := ⟨_, rfl⟩
  have HG := Lib.hid hg
  rw [← hw2]
  rw [← hg] at HK2 ⊢
  clear hw2 hb2 hg hlook c2
  have HWG := Lib.hid (show w.heap.size ≤ g by have := HG.out; have := H01.out.size; omega)
  have HGA := Lib.hid (show a < g ∧ V.b < g from ⟨by have := HH.out.core.la; have := HWG.out; omega, by have := HH.out.core.lb; have := HWG.out; omega⟩)
  have hcase : fr < nb ∨ (nb ≤ fr ∧ th = false ∧ 200 ≤ ln) ∨ (nb ≤ fr ∧ th = true) ∨ (nb ≤ fr ∧ th = false ∧ ln < 200) := by
    cases th <;> simp <;> omega
  have HFULL := Lib.hid (show fullZ V s bs.length ↔ fr < nb ∨ (th = false ∧ 200 ≤ ln) by
    unfold fullZ
    rw [← HNB.out, ← HFR.out, ← HLN.out, HTH.out]
    cases lookF V.F s <;> simp)
  have hfull : (fr < nb ∨ (nb ≤ fr ∧ th = false ∧ 200 ≤ ln)) ∨ (nb ≤ fr ∧ (th = true ∨ (th = false ∧ ln < 200))) := by
    rcases hcase with h | h | ⟨h, h2⟩ | ⟨h, h2⟩
    · exact .inl (.inl h)
    · exact .inl (.inr h)
    · exact .inr ⟨h, .inl h2⟩
    · exact .inr ⟨h, .inr h2⟩
  clear hcase
  have HSZ := Lib.hid (And.intro hfb hlb)
  rcases hfull with hc | ⟨hc, hd⟩
  · have HU := Lib.hid (show fullZ V s bs.length from HFULL.out.2 (hc.imp id fun h => h.2))
    rcases hc with hc | ⟨hc, rfl, hc2⟩
    · have k1 : decide ((fr : Int) < (nb : Int)) = true := by simp; omega
      have k3 : ¬ (nb ≤ fr) := by omega
      clear hc HLEN hfb hlb
      go_wp2_with (go_at_call 28; refine (HFRE.out _ HV2.out).mono ?_; rintro e w3 ⟨rfl, hb⟩; have HB3 := Lib.hid hb; clear hb)
      go_ret
      refine ⟨actZ V, by rw [HNS.out, if_neg HBK.out, if_pos HU.out]; rfl, by rw [HNS.out, if_neg HBK.out, if_pos HU.out]; exact norm_act V, (Left.turn HH.out HV.out H01.out (act_F V) (act_b V) (act_room V)).andBelow (HB2.out.trans (HB3.out.mono HB2.out.size))⟩
    · have k1 : decide ((fr : Int) < (nb : Int)) = false := by simp; omega
      have k2 : decide ((200 : Int) ≤ (ln : Int)) = true := by simp; omega
      clear hfb hlb
      go_wp2_with (go_at_call 28; refine (HFRE.out _ HV2.out).mono ?_; rintro e w3 ⟨rfl, hb⟩; have hlen := HLEN.out w3 (HV2.out.below hb); have c2 : w3.cell? ⟨a, 2, none⟩ = some (.map (some V.b)) := (by have h5 := (HV2.out.below hb).blk.cell 2; rw [act_b] at h5; simpa using h5); have HB3 := Lib.hid hb; clear hb)
      go_ret
      refine ⟨actZ V, by rw [HNS.out, if_neg HBK.out, if_pos HU.out]; rfl, by rw [HNS.out, if_neg HBK.out, if_pos HU.out]; exact norm_act V, (Left.turn HH.out HV.out H01.out (act_F V) (act_b V) (act_room V)).andBelow (HB2.out.trans (HB3.out.mono HB2.out.size))⟩
  · have HU := Lib.hid (show ¬ fullZ V s bs.length from fun h => by
      rcases HFULL.out.1 h with h | ⟨h1, h2⟩
      · omega
      · rcases hd with h | ⟨_, h⟩
        · rw [h] at h1; cases h1
        · omega)
    have HD := Lib.hid hd
    have HNF := Lib.hid hc
    have k1 : decide ((fr : Int) < (nb : Int)) = false := by simp; omega
    have hd2 : th = true ∨ (th = false ∧ ¬ (200 ≤ ln)) := hd.imp id fun h => ⟨h.1, by omega⟩
    have HTH2 := Lib.hid (show (th = true → ∃ f, lookF V.F s = some f) ∧ (th = false → lookF V.F s = none ∧ ln < 200) from ⟨fun h => by rw [HTH.out] at h; exact Option.isSome_iff_exists.1 h, fun h => ⟨by rw [HTH.out] at h; simpa using h, by rcases hd with h' | h'; rw [h] at h'; cases h'; exact h'.2⟩⟩)
    clear hfb hlb hd HD HTH HLK HFULL
    have HPT := Lib.hid (show ∀ (A : Option Addr) (c : Nat) (xs : List Int), usedF (putF V.F ⟨s, A, fn + nb, c, fs, xs⟩) ≤ V.room ∧ (putF V.F ⟨s, A, fn + nb, c, fs, xs⟩).length ≤ 200 from fun A c xs => by
      have h1 := used_put HH.out.core.one ⟨s, A, fn + nb, c, fs, xs⟩
      have e : fn = ((lookF V.F s).map FZ.n).getD 0 := by
        have := congrArg FZ.n HF0.out
        simp only at this
        rw [this]; unfold lkF; cases lookF V.F s <;> rfl
      have := HH.out.used
      have := HFR.out
      have := HNF.out
      refine ⟨by simp only at h1; omega, ?_⟩
      rcases hd2 with h | ⟨h, _⟩
      · obtain ⟨g, hg⟩ := HTH2.out.1 h
        have := len_put_some (f := ⟨s, A, fn + nb, c, fs, xs⟩) hg
        have := HH.out.len
        omega
      · have h3 := (HTH2.out.2 h).2
        have := len_put V.F ⟨s, A, fn + nb, c, fs, xs⟩
        have := HLN.out
        omega)
    rcases hd2 with rfl | ⟨rfl, hl2⟩
    all_goals
      go_upto_region 11 with (go_at_call 28; refine (HFRE.out _ HV2.out).mono ?_; rintro e w3 ⟨rfl, hb⟩; have hlen := HLEN.out w3 (HV2.out.below hb); have c2 : w3.cell? ⟨a, 2, none⟩ = some (.map (some V.b)) := (by have h5 := (HV2.out.below hb).blk.cell 2; rw [act_b] at h5; simpa using h5); have HB3 := Lib.hid hb; clear hb)
      clear hlen c2 HLEN HFRE HAC2 HM
      have H03 := Lib.hid (show Fr (fun i => i = a) w w3 from (H01.out.trans (Fr.of_below HB2.out)).trans (Fr.of_below HB3.out))
      have HV3 := Lib.hid (HV2.out.below HB3.out)
      have HK3 := Lib.hid (show Blk w3 g 70 #[.slice fA fn fc, .int .i64 fs] from HK2.out.below HB3.out HK2.out.lt)
      have hrow3 : Row w3 Ab (u8s bs) := by
        by_cases hbs : bs = []
        · exact .inl (by rw [hbs]; rfl)
        · exact HROW.out.fr H03.out (fun b o e k => HX.out hbs b o e (.inl k))
      have HROW3 := Lib.hid hrow3
      clear hrow3
      obtain ⟨ho0, hby0, hsf0, hnm0, hft0, hap0⟩ := HLO.out
      have HO0 := Lib.hid ho0
      have HFT0 := Lib.hid hft0
      have HO3 := Lib.hid (show w3.ownsRow B 5 1 (.slice fA fn fc) fn (u8s fb) from by
        have h := ho0.fr H03.out (fun b e k => by
          subst k
          exact absurd e (own_not_core HH.out.core ho0).1)
        exact h)
      have HS2 := Lib.hid (show (fn + nb) * 1 ≤ 140737488355328 by have := HFN.out; have := HH.out.core.used; have := HNF.out; have := HSZ.out.1; omega)
      have HBW := Lib.hid (show B ≤ w3.heap.size by have := HH.out.ba; have := HH.out.core.la; have := H03.out.size; omega)
      have HNG := Lib.hid (show (Value.slice fA fn fc).ownBlock ≠ some g from fun e => by have h1 := (ho0.lt (b := g) e).1; have := HWG.out; omega)
      have HKG := Lib.hid (show ∀ w4, w3.grownBy w4 (Value.slice fA fn fc).ownBlock → w4.cell? ⟨g, 0, none⟩ = some (.slice fA fn fc) ∧ w4.frozen? ⟨g, 0, none⟩ = false ∧ Blk w4 g 70 #[.slice fA fn fc, .int .i64 fs] from fun w4 hg => by
        have h1 := HK3.out.grown hg HNG.out
        have h2 := h1.cell 0
        simp at h2
        exact ⟨h2, h1.frozen 0, h1⟩)
      have b0 := HK3.out.cell 0
      simp at b0
      clear ho0 hby0 hsf0 hft0 hap0
      go_upto_region 12 with (at_builtin; refine wpList_append_u8s rfl _ _ rfl B (.slice fA fn fc) fn (u8s fb) rfl Ab nb cb bs rfl HO3.out HROW3.out HNB.out HCB.out HAB.out HS2.out HBW.out ?_; intro v4 w4 ho4 hg4 hd4; rw [u8s_app] at ho4; obtain ⟨A4, c4, rfl⟩ := own_is ho4; obtain ⟨k0, kf, kb⟩ := HKG.out _ hg4; have HK4 := Lib.hid kb; clear kb; have HO4 := Lib.hid ho4; have HG4 := Lib.hid hg4; have HD4 := Lib.hid hd4; clear ho4 hg4 hd4)
      obtain ⟨w5, hw5⟩ : ∃ w5, w5 = w4.setCell ⟨g, 0, none⟩ (.slice A4 (fn + nb) c4) := ⟨_, rfl⟩
      have h45 : Fr (fun i => i = g) w4 w5 := by rw [hw5]; exact (Fr.refl (fun i => i = g) w4).set_ (.inl (show g = g from rfl)) _
      have HK5 := Lib.hid (show Blk w5 g 70 #[.slice A4 (fn + nb) c4, .int .i64 fs] by rw [hw5]; exact HK4.out.set_ 0 _)
      have hnc := own_not_core HH.out.core HO0.out
      have h34 := Fr.of_grown HG4.out
      have hv4 : VCore w4 a (actZ V) := HV3.out.fr h34 (fun e => hnc.1 e) (fun e => hnc.2 (by rw [act_b] at e; exact e))
      have HV5 := Lib.hid (hv4.fr h45 (by have := HGA.out; omega) (by rw [act_b]; have := HGA.out; omega))
      have HO5 := Lib.hid (show OwnF w5 B ⟨s, A4, fn + nb, c4, fs, fb ++ bs⟩ from OwnF.fr (f := ⟨s, A4, fn + nb, c4, fs, fb ++ bs⟩) HO4.out h45 (fun b e k => by
        subst k
        have e' : (Value.slice A4 (fn + nb) c4).ownBlock = some b := e
        rcases HD4.out with h | h
        · exact HNG.out (h.symm.trans e')
        · have h1 := h.symm.trans e'
          injection h1 with h1
          have := HK3.out.lt
          omega))
      have HP := Lib.hid (put_any a (actZ V) s A4 (fn + nb) c4 fs (fb ++ bs) w5 HV5.out hs (by
        have e : (lkF (actZ V).F s).n = fn := by rw [act_F, ← HF0.out]
        rw [e, act_F]
        have := HH.out.used
        have := HH.out.core.room
        have := HFR.out
        have := HNF.out
        omega) (by rw [act_F]; have := HH.out.len; omega))
      have H45 := Lib.hid h45
      have H34 := Lib.hid h34
      have HW5 := Lib.hid hw5
      rw [← HW5.out]
      clear hw5 h45 h34 hv4 hnc b0 k0 kf HKG
      have b0 := HK5.out.cell 0
      have b1 := HK5.out.cell 1
      simp at b0 b1
      go_wp2_with (go_at_call 29; refine HP.out.mono ?_; rintro e w6 ⟨rfl, hv6, hf6⟩; have HV6 := Lib.hid hv6; have HF6 := Lib.hid hf6; clear hv6 hf6)
      go_ret
      have h56 : Fr (fun i => i = a ∨ i = V.b) w5 w6 := HF6.out.mono fun i _ h => by
        rcases h with h | h
        · exact .inl h
        · exact .inr (h.trans (act_b V))
      have h06 : Fr (fun i => i = a ∨ i = V.b ∨ blkF ⟨nm, fA, fn, fc, fs, fb⟩ = some i) w w6 := by
        have h3 : Fr (fun i => i = a ∨ i = V.b ∨ blkF ⟨nm, fA, fn, fc, fs, fb⟩ = some i) w w3 := H03.out.mono fun i _ h => .inl h
        have h4 := h3.trans (H34.out.mono fun i _ h => .inr (.inr h))
        have h5 : Fr (fun i => i = a ∨ i = V.b ∨ blkF ⟨nm, fA, fn, fc, fs, fb⟩ = some i) w w5 := by
          refine ⟨H45.out.os.trans h4.os, H45.out.tape.trans h4.tape, H45.out.output.trans h4.output, Nat.le_trans h4.size H45.out.size, fun i hi k => ?_⟩
          exact (H45.out.block i (Nat.lt_of_lt_of_le hi h4.size) (by have := HWG.out; omega)).trans (h4.block i hi k)
        exact h5.trans (h56.mono fun i _ h => h.imp id .inl)
      obtain ⟨ho0, hby0, hsf0, _, hft0, hap0⟩ := HLO.out
      have hrow : ∀ x ∈ V.F, x.name ≠ s → OwnF w6 B x := fun x hx hne => (HH.out.own x hx).fr h06 fun b e k => by
        have hn := HH.out.not_a hx
        rcases k with k | k | k
        · exact hn.1 (by rw [e, k])
        · exact hn.2 (by rw [e, k])
        · exact hap0 x hx hne b k e
      have hown : OwnF w6 B ⟨s, A4, fn + nb, c4, fs, fb ++ bs⟩ := HO5.out.fr h56 fun b e k => by
        have hn := own_not_core HV5.out HO5.out
        rcases k with k | k
        · exact hn.1 (by rw [e, k])
        · exact hn.2 (by rw [act_b, e, k])
      have hblk : ∀ b, blkF ⟨s, A4, fn + nb, c4, fs, fb ++ bs⟩ = some b → blkF ⟨nm, fA, fn, fc, fs, fb⟩ = some b ∨ b = w3.heap.size := fun b e => by
        have e' : (Value.slice A4 (fn + nb) c4).ownBlock = some b := e
        rcases HD4.out with h | h
        · exact .inl (h.symm.trans e')
        · have h1 := h.symm.trans e'
          injection h1 with h1
          exact .inr h1.symm
      have h3s := H03.out.size
      refine ⟨putZ (actZ V) ⟨s, A4, fn + nb, c4, fs, fb ++ bs⟩, by rw [HNS.out, if_neg HBK.out, if_neg HU.out]; rfl, ?_, put_left HH.out (act_F V) (act_b V) (act_room V) HV6.out (h06.mono fun i _ h => ?_) hrow hown ?_ ?_ (name_size HQN.out.symm) (fun x hx hne b e k => ?_) (HPT.out _ _ _).1 (HPT.out _ _ _).2 fun b e => ?_⟩
      · rw [HNS.out, if_neg HBK.out, if_neg HU.out]
        show normZ (putZ (actZ V) _) = putZ (actZ (normZ V)) _
        rw [← norm_act, show lkF (normZ V).F s = normF (lkF V.F s) from norm_lk V.F s, ← HF0.out]
        unfold normZ putZ
        simp only [norm_put]
        unfold addF normF
        simp only [HNB.out, hnm0]
      · rcases h with h | h | h
        · exact .inl h
        · exact .inr (.inl h)
        · exact hft0 i h
      · intro x hx
        rcases List.mem_append.1 hx with h | h
        · exact hby0 x h
        · exact HBY.out x h
      · show fs ≤ fn + nb
        have : fs ≤ fn := hsf0
        omega
      · rcases hblk b e with h | h
        · exact hap0 x hx hne b h k
        · have := ((HH.out.own x hx).lt k).1
          omega
      · rcases hblk b e with h | h
        · exact .inl (hft0 b h)
        · exact .inr (by omega)
end Go.Proofs.YthogafecplhckaaDoor
