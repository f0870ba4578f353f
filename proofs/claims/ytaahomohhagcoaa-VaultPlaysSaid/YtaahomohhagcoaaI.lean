/- Rename, Append. -/
import Derived.Test.YtaahomohhagcoaaH
namespace Go.Proofs.Ytaahomohhagcoaa
open Go.RowKit Go.Maps Go.Shelf
set_option linter.unusedSimpArgs false
set_option linter.unusedVariables false
def renameS (P : VZ) (s t : ByteArray) : VZ × Int :=
  if nameB t = false then (P, 31) else
  match lookF P.F s with
  | none => (P, 31)
  | some f => if brkZ (actZ P) then (actZ P, 272) else (putZ (dropZ (actZ P) s) { f with name := t }, 0)
theorem name_size {s : ByteArray} (h : nameB s = true) : s.size ≤ 12 := by
  unfold nameB at h
  simp only [Bool.and_eq_true, decide_eq_true_eq] at h
  exact h.1.2
set_option maxRecDepth 100000 in
set_option maxHeartbeats 8000000 in
theorem rename_any (B a : Nat) (V : VZ) (s t : ByteArray) (w : World) (h : VRep w B a V) (hs : s.size ≤ 9223372036854775807) (ht : t.size ≤ 9223372036854775807) :
    Calls Try.prog 24 #[.pointer (some ⟨a, 0, none⟩), .string s, .string t] w (ActP w B a V (renameS (normZ V) s t)) := by
  have HH0 := Lib.hid h
  have HM := Lib.hid (maybe_any t w ht)
  obtain ⟨q, hq⟩ : ∃ q, q = nameB t := ⟨_, rfl⟩
  rw [← hq] at HM
  have HQN := Lib.hid hq
  clear h hq
  cases q with
  | false =>
    have HS := Lib.hid (show renameS (normZ V) s t = (normZ V, 31) by unfold renameS; rw [if_pos HQN.out.symm])
    go_enter Try.func24, Try.ntmps24
    go_wp2_with (go_at_call 42; refine HM.out.mono ?_; rintro e w1 ⟨rfl, hb⟩; have HBB := Lib.hid hb; clear hb)
    go_ret
    exact ⟨V, by rw [HS.out]; rfl, by rw [HS.out], Left.same HH0.out HBB.out⟩
  | true =>
  have HNS := Lib.hid (show renameS (normZ V) s t = match lookF (normZ V).F s with | none => (normZ V, 31) | some f => if brkZ (actZ (normZ V)) then (actZ (normZ V), 272) else (putZ (dropZ (actZ (normZ V)) s) { f with name := t }, 0) by unfold renameS; rw [if_neg (by rw [← HQN.out]; simp)])
  have HBG := Lib.hid (show ∀ w0, Below w.heap.size w w0 → Calls Try.prog 45 #[.pointer (some ⟨a, 0, none⟩), .string s] w0 (BeginPost w0 a V s) from fun w0 hb => begin_any a V s w0 (HH0.out.below hb).core hs)
  cases hl : lookF V.F s with
  | none =>
    have HL := Lib.hid hl
    have HS := Lib.hid (show renameS (normZ V) s t = (normZ V, 31) by rw [HNS.out]; simp only [show lookF (normZ V).F s = (lookF V.F s).map normF from norm_look V.F s, hl, Option.map_none])
    clear hl
    go_enter Try.func24, Try.ntmps24
    go_wp2_with (first
      | (go_at_call 42; refine HM.out.mono ?_; rintro e w0 ⟨rfl, hb⟩; have HB0 := Lib.hid hb; clear hb)
      | (go_at_call 45; refine (HBG.out _ HB0.out).mono ?_; rintro e w1 hq; obtain ⟨rfl, hb⟩ : e = .returned (.tuple #[.agg #[.slice none 0 0, .int .i64 0], .int .i64 31]) ∧ Below _ _ w1 := (by rcases hq with ⟨_, h1, h2⟩ | ⟨f, h1, _⟩; exact ⟨h1, h2⟩; exact absurd (HL.out.symm.trans h1) (by simp)); have HBB := Lib.hid hb; clear hq hb))
    go_ret
    refine ⟨V, by rw [HS.out]; rfl, by rw [HS.out], Left.same HH0.out ?_⟩
    exact bpush (bthen HB0.out HBB.out) _
  | some f =>
    have HL := Lib.hid hl
    have HS := Lib.hid (show renameS (normZ V) s t = if brkZ (actZ (normZ V)) then (actZ (normZ V), 272) else (putZ (dropZ (actZ (normZ V)) s) { normF f with name := t }, 0) by rw [HNS.out]; simp only [show lookF (normZ V).F s = (lookF V.F s).map normF from norm_look V.F s, hl, Option.map_some])
    obtain ⟨nm, fA, fn, fc, fs, fb⟩ := f
    have HQ := Lib.hid (show ∀ w0 e w1, BeginPost w0 a V s e w1 → e = .returned (.tuple #[.agg #[.slice fA fn fc, .int .i64 fs], .int .i64 (errZ V)]) ∧ VCore w1 a (actZ V) ∧ Fr (fun i => i = a) w0 w1 from fun w0 e w1 hq => by
      rcases hq with ⟨h0, _⟩ | ⟨f, h1, h2, h3, h4⟩
      · exact absurd (HL.out.symm.trans h0) (by simp)
      · have := HL.out.symm.trans h1
        cases this
        exact ⟨h2, h3, h4⟩)
    obtain ⟨er, her⟩ : ∃ er, er = errZ V := ⟨_, rfl⟩
    rw [← her] at HQ
    have HE := Lib.hid her
    have hfm := look_name hl
    obtain rfl : nm = s := hfm.1
    have HFM := Lib.hid hfm.2
    clear hl her hfm
    rcases err_cases V with ⟨hb, he⟩ | ⟨hb, he⟩
    · obtain rfl : er = 272 := HE.out.trans he
      have HBK := Lib.hid hb
      clear hb he
      go_enter Try.func24, Try.ntmps24
      go_wp2_with (first
        | (go_at_call 42; refine HM.out.mono ?_; rintro e w0 ⟨rfl, hb⟩; have HB0 := Lib.hid hb; clear hb)
        | (go_at_call 45; refine (HBG.out _ HB0.out).mono ?_; rintro e w1 hq; obtain ⟨rfl, hv, hf⟩ := HQ.out _ _ _ hq; have HV := Lib.hid hv; have HF := Lib.hid hf; clear hq hv hf))
      go_ret
      have hk : brkZ (actZ (normZ V)) = true := by rw [← norm_act, norm_brk]; exact HBK.out
      have hF : Fr (fun i => i = a) w _ := (Fr.of_below HB0.out).trans HF.out
      refine ⟨actZ V, by rw [HS.out, if_pos hk]; rfl, by rw [HS.out, if_pos hk]; exact norm_act V, (Left.turn HH0.out HV.out hF (act_F V) (act_b V) (act_room V)).andBelow (bpush (Below.refl _ _) _)⟩
    · obtain rfl : er = 0 := HE.out.trans he
      have HBK := Lib.hid hb
      clear hb he
      go_enter Try.func24, Try.ntmps24
      go_upto_region 8 with (first
        | (go_at_call 42; refine HM.out.mono ?_; rintro e w0 ⟨rfl, hb⟩; have HB0 := Lib.hid hb; clear hb)
        | (go_at_call 45; refine (HBG.out _ HB0.out).mono ?_; rintro e w1 hq; obtain ⟨rfl, hv, hf⟩ := HQ.out _ _ _ hq; have HV := Lib.hid hv; have HF := Lib.hid hf; clear hq hv hf))
      obtain ⟨w2, hw2⟩ : ∃ w2, w2 = w1.alloc (.cells #[.slice fA fn fc, .int .i64 fs] 63) := ⟨_, rfl⟩
      have hb2 : Below w1.heap.size w1 w2 := by rw [hw2]; exact bpush (Below.refl _ _) _
      have HV2 := Lib.hid (HV.out.below hb2)
      have HB2 := Lib.hid hb2
      have HK2 := Lib.hid (show Blk w2 w1.heap.size 63 #[.slice fA fn fc, .int .i64 fs] by rw [hw2]; exact Blk.new _ _ _)
      have HGA := Lib.hid (show a < w1.heap.size ∧ V.b < w1.heap.size from ⟨HV.out.la, by have := HV.out.lb; rw [act_b] at this; exact this⟩)
      obtain ⟨g, hg⟩ : ∃ g, g = w1.heap.size := ⟨_, rfl⟩
      have HG := Lib.hid hg
      rw [← hw2]
      rw [← hg] at HK2 HGA ⊢
      clear hw2 hb2 hg
      have HD := Lib.hid (drop_any a (actZ V) nm w2 HV2.out hs)
      go_upto_region 9 with (go_at_call 46; refine HD.out.mono ?_; rintro e w3 ⟨rfl, hv3, hf3⟩; have HV3 := Lib.hid hv3; have HF3 := Lib.hid hf3; clear hv3 hf3)
      have HK3 := Lib.hid (show Blk w3 g 63 #[.slice fA fn fc, .int .i64 fs] from (HF3.out.block g HK2.out.lt (by rw [act_b]; have := HGA.out; omega)).trans HK2.out)
      have b0 := HK3.out.cell 0
      have b1 := HK3.out.cell 1
      simp at b0 b1
      have h03 : Fr (fun i => i = a ∨ i = V.b) w w3 := by
        have h0 : Fr (fun i => i = a ∨ i = V.b) w _ := Fr.of_below HB0.out
        have h1 := h0.trans (HF.out.mono fun i _ h => Or.inl h)
        have h2 := h1.trans (Fr.of_below HB2.out)
        exact h2.trans (HF3.out.mono fun i _ h => by rw [act_b] at h; exact h)
      have HL3 := Lib.hid (drop_left HH0.out (act_F V) (act_b V) (act_room V) HV3.out h03)
      have hdl := len_drop_some HL.out
      have hdu := used_drop (s := nm) HH0.out.core.one
      simp only [HL.out, Option.map_some, Option.getD_some] at hdu
      have HDL := Lib.hid hdl
      have HDU := Lib.hid hdu
      have HP := Lib.hid (put_any a (dropZ (actZ V) nm) t fA fn fc fs fb w3 HV3.out ht (by show usedF (dropF (actZ V).F nm) + fn ≤ _; rw [act_F]; have := HH0.out.used; have := HH0.out.core.room; omega) (by show (dropF (actZ V).F nm).length < _; rw [act_F]; have := HH0.out.len; omega))
      have H03 := Lib.hid h03
      clear h03 hdl hdu HD
      go_wp2_with (go_at_call 44; refine HP.out.mono ?_; rintro e w4 ⟨rfl, hv4, hf4⟩; have HV4 := Lib.hid hv4; have HF4 := Lib.hid hf4; clear hv4 hf4)
      go_ret
      have hk : ¬ (brkZ (actZ (normZ V)) = true) := by rw [← norm_act, norm_brk, HBK.out]; simp
      have h34 : Fr (fun i => i = a ∨ i = V.b) w3 w4 := HF4.out.mono fun i _ h => by
        rcases h with h | h
        · exact .inl h
        · exact .inr (h.trans (act_b V))
      have h04 := H03.out.trans h34
      have hdF : (dropZ (actZ V) nm).F = dropF V.F nm := by show dropF (actZ V).F nm = _; rw [act_F]
      have hrow : ∀ g ∈ V.F, OwnF w4 B g := fun g hg => (HH0.out.own g hg).fr h04 fun b e k => by
        have hn := HH0.out.not_a hg
        rcases k with k | k
        · exact hn.1 (by rw [e, k])
        · exact hn.2 (by rw [e, k])
      have hrep : VRep w4 B a (putZ (dropZ (actZ V) nm) ⟨t, fA, fn, fc, fs, fb⟩) := by
        refine put_rep HL3.out.rep rfl rfl rfl HV4.out (fun g hg _ => ?_) (by have h := hrow _ HFM.out; exact h) (by have h := HH0.out.byt _ HFM.out; exact h) (by have h := HH0.out.safe _ HFM.out; exact h) (name_size HQN.out.symm) (fun g hg _ => ?_) ?_ ?_
        · rw [hdF] at hg; exact hrow g (mem_drop.1 hg).1
        · rw [hdF] at hg
          have h := apart_of HH0.out.apart HFM.out (mem_drop.1 hg).1 (mem_drop.1 hg).2
          exact h
        · have h1 := used_put HL3.out.rep.core.one ⟨t, fA, fn, fc, fs, fb⟩
          have h2 : usedF (dropZ (actZ V) nm).F + fn = usedF V.F := by rw [hdF]; exact HDU.out
          have h3 : (dropZ (actZ V) nm).room = V.room := act_room V
          rw [h3]
          have := HH0.out.used
          simp only at h1
          omega
        · have h1 := len_put (dropZ (actZ V) nm).F ⟨t, fA, fn, fc, fs, fb⟩
          have h2 := HDL.out
          rw [hdF] at h1 ⊢
          have := HH0.out.len
          omega
      refine ⟨putZ (dropZ (actZ V) nm) ⟨t, fA, fn, fc, fs, fb⟩, by rw [HS.out, if_neg hk]; rfl, ?_, hrep, h04.mono fun i _ h => h.imp id Or.inl, fun i hi => ?_⟩
      · rw [HS.out, if_neg hk]
        show normZ (putZ (dropZ (actZ V) nm) _) = putZ (dropZ (actZ (normZ V)) nm) _
        rw [← norm_act]
        unfold normZ putZ dropZ
        simp only [norm_put, norm_drop]; rfl
      · rcases foot_put (V := dropZ (actZ V) nm) rfl rfl hi with h | h
        · rcases HL3.out.foot i h with h | h
          · exact .inl h
          · exact .inr h
        · exact .inl (.inr (.inr ⟨_, HFM.out, h⟩))
end Go.Proofs.Ytaahomohhagcoaa
