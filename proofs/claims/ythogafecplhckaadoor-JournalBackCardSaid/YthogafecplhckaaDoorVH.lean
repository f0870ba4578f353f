/- What a put and a drop leave; Sync, Delete. -/
import Derived.Test.YthogafecplhckaaDoorVG
namespace Go.Proofs.YthogafecplhckaaDoor
open Go.RowKit Go.Maps Go.Shelf
set_option linter.unusedSimpArgs false
set_option linter.unusedVariables false
theorem pw_ins {R : FZ → FZ → Prop} (hsym : ∀ f g, R f g → R g f) {f : FZ} : ∀ {F : List FZ}, F.Pairwise R → (∀ g ∈ F, R f g) → (insF f F).Pairwise R := by
  intro F
  induction F with
  | nil => intro _ _; exact List.pairwise_singleton _ _
  | cons x F ih =>
    intro h hr
    have hc := List.pairwise_cons.1 h
    rw [ins_cons]
    split
    · exact List.pairwise_cons.2 ⟨fun g hg => hr g hg, h⟩
    · refine List.pairwise_cons.2 ⟨fun g hg => ?_, ih hc.2 fun g hg => hr g (List.mem_cons_of_mem _ hg)⟩
      rcases mem_ins.1 hg with rfl | hg
      · exact hsym _ _ (hr x (List.mem_cons_self ..))
      · exact hc.1 g hg
theorem len_drop_some {F : List FZ} {s : ByteArray} {f : FZ} (h : lookF F s = some f) : (dropF F s).length < F.length := by
  obtain ⟨h1, h2⟩ := look_name h
  unfold dropF
  refine List.length_filter_lt_length_iff_exists.2 ⟨f, h2, ?_⟩
  rw [h1]; simp
theorem len_put_some {F : List FZ} {f g : FZ} (h : lookF F f.name = some g) : (putF F f).length ≤ F.length := by
  unfold putF; rw [len_ins]; have := len_drop_some h; omega
theorem mem_putZ {V V1 : VZ} {f g : FZ} (hF : V1.F = V.F) : g ∈ (putZ V1 f).F ↔ g = f ∨ (g ∈ V.F ∧ g.name ≠ f.name) := by show g ∈ putF V1.F f ↔ _; rw [hF]; exact mem_put
theorem put_rep {w w' : World} {B a : Nat} {V V1 : VZ} {f : FZ} (h : VRep w B a V) (hF : V1.F = V.F) (hb : V1.b = V.b) (hr : V1.room = V.room) (core : VCore w' a (putZ V1 f))
    (hrows : ∀ g ∈ V.F, g.name ≠ f.name → OwnF w' B g) (hf : OwnF w' B f) (hby : bytes f.bs) (hsafe : f.safe ≤ f.n) (hname : f.name.size ≤ 12) (hap : ∀ g ∈ V.F, g.name ≠ f.name → apartF f g)
    (hus : usedF (putF V.F f) ≤ V.room) (hlen : (putF V.F f).length ≤ 200) : VRep w' B a (putZ V1 f) := by
  have hm := fun g => mem_putZ (V := V) (V1 := V1) (f := f) (g := g) hF
  refine ⟨core, fun g hg => ?_, ?_, fun g hg => ?_, fun g hg => ?_, fun g hg => ?_, h.ba, by show B ≤ V1.b; rw [hb]; exact h.bb, by show usedF (putF V1.F f) ≤ V1.room; rw [hF, hr]; exact hus, by show (putF V1.F f).length ≤ _; rw [hF]; exact hlen⟩
  · rcases (hm g).1 hg with rfl | ⟨h1, h2⟩
    · exact hf
    · exact hrows g h1 h2
  · show (putF V1.F f).Pairwise apartF
    rw [hF]
    exact pw_ins (fun f g h => h.symm) (h.apart.filter _) fun g hg => hap g (mem_drop.1 hg).1 (mem_drop.1 hg).2
  · rcases (hm g).1 hg with rfl | ⟨h1, h2⟩
    · exact hby
    · exact h.byt g h1
  · rcases (hm g).1 hg with rfl | ⟨h1, h2⟩
    · exact hsafe
    · exact h.safe g h1
  · rcases (hm g).1 hg with rfl | ⟨h1, h2⟩
    · exact hname
    · exact h.name g h1
theorem foot_put {a : Nat} {V V1 : VZ} {f : FZ} (hF : V1.F = V.F) (hb : V1.b = V.b) {i : Nat} (hi : Foot a (putZ V1 f) i) : Foot a V i ∨ blkF f = some i := by
  rcases hi with rfl | hi | ⟨g, hg, hgb⟩
  · exact .inl (.inl rfl)
  · exact .inl (.inr (.inl (by rw [hi]; exact hb)))
  · rcases (mem_putZ hF).1 hg with rfl | ⟨h1, h2⟩
    · exact .inr hgb
    · exact .inl (.inr (.inr ⟨g, h1, hgb⟩))
theorem put_left {w w' : World} {B a : Nat} {V V1 : VZ} {f : FZ} (h : VRep w B a V) (hF : V1.F = V.F) (hb : V1.b = V.b) (hr : V1.room = V.room) (core : VCore w' a (putZ V1 f)) (fr : Fr (Foot a V) w w')
    (hrows : ∀ g ∈ V.F, g.name ≠ f.name → OwnF w' B g) (hf : OwnF w' B f) (hby : bytes f.bs) (hsafe : f.safe ≤ f.n) (hname : f.name.size ≤ 12) (hap : ∀ g ∈ V.F, g.name ≠ f.name → apartF f g)
    (hus : usedF (putF V.F f) ≤ V.room) (hlen : (putF V.F f).length ≤ 200) (hft : ∀ b, blkF f = some b → Foot a V b ∨ w.heap.size ≤ b) : Left w w' B a V (putZ V1 f) :=
  ⟨put_rep h hF hb hr core hrows hf hby hsafe hname hap hus hlen, fr, fun i hi => (foot_put hF hb hi).elim .inl (hft i)⟩
theorem apart_of {V : VZ} (h : V.F.Pairwise apartF) {f g : FZ} (hf : f ∈ V.F) (hg : g ∈ V.F) (hne : g.name ≠ f.name) : apartF f g := by
  obtain ⟨i, hi, e1⟩ := List.getElem_of_mem hf
  obtain ⟨j, hj, e2⟩ := List.getElem_of_mem hg
  rcases Nat.lt_trichotomy i j with k | k | k
  · have := List.pairwise_iff_getElem.1 h i j hi hj k; rw [e1, e2] at this; exact this
  · subst k; rw [e1] at e2; rw [← e2] at hne; exact absurd rfl hne
  · have := List.pairwise_iff_getElem.1 h j i hj hi k; rw [e1, e2] at this; exact this.symm
theorem drop_left {w w' : World} {B a : Nat} {V V1 : VZ} {s : ByteArray} (h : VRep w B a V) (hF : V1.F = V.F) (hb : V1.b = V.b) (hr : V1.room = V.room) (core : VCore w' a (dropZ V1 s)) (fr : Fr (fun i => i = a ∨ i = V.b) w w') : Left w w' B a V (dropZ V1 s) := by
  have hm : ∀ g, g ∈ (dropZ V1 s).F ↔ g ∈ V.F ∧ g.name ≠ s := fun g => by show g ∈ dropF V1.F s ↔ _; rw [hF]; exact mem_drop
  refine ⟨⟨core, fun g hg => ?_, ?_, fun g hg => h.byt g ((hm g).1 hg).1, fun g hg => h.safe g ((hm g).1 hg).1, fun g hg => h.name g ((hm g).1 hg).1, h.ba, by show B ≤ V1.b; rw [hb]; exact h.bb, ?_, ?_⟩, fr.mono fun i _ hi => ?_, fun i hi => ?_⟩
  · refine (h.own g ((hm g).1 hg).1).fr fr fun b e k => ?_
    have hn := h.not_a ((hm g).1 hg).1
    rcases k with k | k
    · exact hn.1 (by rw [e, k])
    · exact hn.2 (by rw [e, k])
  · show (dropF V1.F s).Pairwise apartF
    rw [hF]; exact h.apart.filter _
  · show usedF (dropF V1.F s) ≤ V1.room
    rw [hF, hr]
    have := used_drop (s := s) h.core.one
    have := h.used
    omega
  · show (dropF V1.F s).length ≤ _
    rw [hF]; exact Nat.le_trans (len_drop _ _) h.len
  · rcases hi with hi | hi
    · exact .inl hi
    · exact .inr (.inl hi)
  · rcases hi with rfl | hi | ⟨g, hg, hgb⟩
    · exact .inl (.inl rfl)
    · exact .inl (.inr (.inl (by rw [hi]; exact hb)))
    · exact .inl (.inr (.inr ⟨g, ((hm g).1 hg).1, hgb⟩))
/-- An act's errno and state. -/
def ActP (w : World) (B a : Nat) (V : VZ) (X : VZ × Int) (e : Ending) (w' : World) : Prop := ∃ V', e = .returned (.int .i64 X.2) ∧ normZ V' = X.1 ∧ Left w w' B a V V'
theorem Left.same {w w' : World} {B a : Nat} {V : VZ} (h : VRep w B a V) (hb : Below w.heap.size w w') : Left w w' B a V V := ⟨h.below hb, Fr.of_below hb, fun i hi => .inl hi⟩
theorem Left.turn {w w' : World} {B a : Nat} {V V' : VZ} (h : VRep w B a V) (hc : VCore w' a V') (hf : Fr (fun i => i = a) w w') (hF : V'.F = V.F) (hb : V'.b = V.b) (hr : V'.room = V.room) : Left w w' B a V V' :=
  ⟨h.turn hc hf hF hb hr, hf.mono fun i _ hi => .inl hi, fun i hi => .inl (by unfold Foot at hi ⊢; rw [hF, hb] at hi; exact hi)⟩
theorem Left.andBelow {w w1 w' : World} {B a : Nat} {V V' : VZ} (h : Left w w1 B a V V') (hb : Below w1.heap.size w1 w') : Left w w' B a V V' :=
  ⟨h.rep.below hb, h.fr.trans (Fr.of_below hb), h.foot⟩
def syncS (P : VZ) (s : ByteArray) : VZ × Int :=
  match lookF P.F s with
  | none => (P, 31)
  | some f => if brkZ (actZ P) then (actZ P, 272) else (putZ (actZ P) { f with safe := f.n }, 0)
def deleteS (P : VZ) (s : ByteArray) : VZ × Int :=
  match lookF P.F s with
  | none => (P, 31)
  | some f => if brkZ (actZ P) then (actZ P, 272) else (dropZ (actZ P) s, 0)
theorem err_cases (V : VZ) : (brkZ (actZ V) = true ∧ errZ V = 272) ∨ (brkZ (actZ V) = false ∧ errZ V = 0) := by
  unfold errZ
  cases brkZ (actZ V) <;> simp
set_option maxRecDepth 100000 in
set_option maxHeartbeats 8000000 in
theorem sync_any (B a : Nat) (V : VZ) (s : ByteArray) (w : World) (h : VRep w B a V) (hs : s.size ≤ 9223372036854775807) :
    Calls Tryd.prog 36 #[.pointer (some ⟨a, 0, none⟩), .string s] w (ActP w B a V (syncS (normZ V) s)) := by
  have HH := Lib.hid h
  have HB := Lib.hid (begin_any a V s w h.core hs)
  clear h
  cases hl : lookF V.F s with
  | none =>
    have HL := Lib.hid hl
    have HS := Lib.hid (show syncS (normZ V) s = (normZ V, 31) by unfold syncS normZ; simp only [norm_look, hl, Option.map_none])
    clear hl
    go_enter Tryd.func36, Tryd.ntmps36
    go_wp2_with (go_at_call 67; refine HB.out.mono ?_; rintro e w1 hq; obtain ⟨rfl, hb⟩ : e = .returned (.tuple #[.agg #[.slice none 0 0, .int .i64 0], .int .i64 31]) ∧ Below w.heap.size w w1 := (by rcases hq with ⟨_, h1, h2⟩ | ⟨f, h1, _⟩; exact ⟨h1, h2⟩; exact absurd (HL.out.symm.trans h1) (by simp)); have HBB := Lib.hid hb; clear hq hb)
    go_ret
    refine ⟨V, by rw [HS.out]; rfl, by rw [HS.out], Left.same HH.out ?_⟩
    exact bpush HBB.out _
  | some f =>
    have HL := Lib.hid hl
    have HS := Lib.hid (show syncS (normZ V) s = if brkZ (actZ (normZ V)) then (actZ (normZ V), 272) else (putZ (actZ (normZ V)) { normF f with safe := f.n }, 0) by unfold syncS; simp only [show lookF (normZ V).F s = (lookF V.F s).map normF from norm_look V.F s, hl, Option.map_some]; rfl)
    obtain ⟨nm, fA, fn, fc, fs, fb⟩ := f
    have HQ := Lib.hid (show ∀ e w1, BeginPost w a V s e w1 → e = .returned (.tuple #[.agg #[.slice fA fn fc, .int .i64 fs], .int .i64 (errZ V)]) ∧ VCore w1 a (actZ V) ∧ Fr (fun i => i = a) w w1 from fun e w1 hq => by
      rcases hq with ⟨h0, _⟩ | ⟨f, h1, h2, h3, h4⟩
      · exact absurd (HL.out.symm.trans h0) (by simp)
      · have := HL.out.symm.trans h1
        cases this
        exact ⟨h2, h3, h4⟩)
    obtain ⟨er, her⟩ : ∃ er, er = errZ V := ⟨_, rfl⟩
    rw [← her] at HQ
    have HE := Lib.hid her
    clear hl her
    rcases err_cases V with ⟨hb, he⟩ | ⟨hb, he⟩
    · obtain rfl : er = 272 := HE.out.trans he
      have HBK := Lib.hid hb
      clear hb he
      go_enter Tryd.func36, Tryd.ntmps36
      go_wp2_with (go_at_call 67; refine HB.out.mono ?_; rintro e w1 hq; obtain ⟨rfl, hv, hf⟩ := HQ.out _ _ hq; have HV := Lib.hid hv; have HF := Lib.hid hf; clear hq hv hf)
      go_ret
      have hk : brkZ (actZ (normZ V)) = true := by rw [← norm_act, norm_brk]; exact HBK.out
      refine ⟨actZ V, by rw [HS.out, if_pos hk]; rfl, by rw [HS.out, if_pos hk]; exact norm_act V, (Left.turn HH.out HV.out HF.out (act_F V) (act_b V) (act_room V)).andBelow (bpush (Below.refl _ _) _)⟩
    · obtain rfl : er = 0 := HE.out.trans he
      have HBK := Lib.hid hb
      clear hb he
      go_enter Tryd.func36, Tryd.ntmps36
      go_upto_region 6 with (go_at_call 67; refine HB.out.mono ?_; rintro e w1 hq; obtain ⟨rfl, hv, hf⟩ := HQ.out _ _ hq; have HV := Lib.hid hv; have HF := Lib.hid hf; clear hq hv hf)
      obtain ⟨w2, hw2⟩ : ∃ w2, w2 = w1.alloc (.cells #[.slice fA fn fc, .int .i64 fs] 70) := ⟨_, rfl⟩
      have hb2 : Below w1.heap.size w1 w2 := by rw [hw2]; exact bpush (Below.refl _ _) _
      have HV2 := Lib.hid (HV.out.below hb2)
      have HB2 := Lib.hid hb2
      have HK2 := Lib.hid (show Blk w2 w1.heap.size 70 #[.slice fA fn fc, .int .i64 fs] by rw [hw2]; exact Blk.new _ _ _)
      have HGA := Lib.hid (show a < w1.heap.size ∧ V.b < w1.heap.size from ⟨HV.out.la, by have := HV.out.lb; rw [act_b] at this; exact this⟩)
      obtain ⟨g, hg⟩ : ∃ g, g = w1.heap.size := ⟨_, rfl⟩
      have HG := Lib.hid hg
      rw [← hw2]
      rw [← hg] at HK2 HGA ⊢
      clear hw2 hb2 hg
      have b0 := HK2.out.cell 0
      have b1 := HK2.out.cell 1
      have f1 := HK2.out.frozen 1
      simp at b0 b1
      go_upto_region 7 with fail
      obtain ⟨w3, hw3⟩ : ∃ w3, w3 = w2.setCell ⟨g, 1, none⟩ (.int .i64 fn) := ⟨_, rfl⟩
      have hf3 : Fr (fun i => i = g) w2 w3 := by rw [hw3]; exact (Fr.refl (fun i => i = g) w2).set_ (.inl (show g = g from rfl)) _
      have HK3 := Lib.hid (show Blk w3 g 70 #[.slice fA fn fc, .int .i64 fn] by rw [hw3]; exact HK2.out.set_ 1 _)
      have HV3 := Lib.hid (HV2.out.fr hf3 (by have := HGA.out.1; omega) (by rw [act_b]; have := HGA.out.2; omega))
      have HF3 := Lib.hid hf3
      rw [← hw3]
      clear b0 b1 f1 hw3 hf3
      have b0 := HK3.out.cell 0
      have b1 := HK3.out.cell 1
      simp at b0 b1
      have hfm := look_name HL.out
      obtain rfl : nm = s := hfm.1
      have hlk : lkF (actZ V).F nm = ⟨nm, fA, fn, fc, fs, fb⟩ := by rw [act_F]; unfold lkF; rw [HL.out]; rfl
      have HP := Lib.hid (put_any a (actZ V) nm fA fn fc fn fb w3 HV3.out hs (by rw [hlk]; have := HV3.out.used; simp only; omega) (by rw [act_F]; have := HH.out.len; omega))
      have HFM := Lib.hid hfm.2
      clear hlk hfm
      go_wp2_with (go_at_call 29; refine HP.out.mono ?_; rintro e w4 ⟨rfl, hv4, hf4⟩; have HV4 := Lib.hid hv4; have HF4 := Lib.hid hf4; clear hv4 hf4)
      go_ret
      have hk : ¬ (brkZ (actZ (normZ V)) = true) := by rw [← norm_act, norm_brk, HBK.out]; simp
      have hfr : Fr (fun i => i = a ∨ i = V.b) w w4 := by
        have h1 : Fr (fun i => i = a ∨ i = V.b) w w2 := (HF.out.mono fun i _ h => Or.inl h).trans (Fr.of_below HB2.out)
        have h3 : Fr (fun i => i = a ∨ i = V.b) w w3 := by
          refine ⟨HF3.out.os.trans h1.os, HF3.out.tape.trans h1.tape, HF3.out.output.trans h1.output, Nat.le_trans h1.size HF3.out.size, fun i hi k => ?_⟩
          exact (HF3.out.block i (Nat.lt_of_lt_of_le hi h1.size) (by have := HG.out; have := HF.out.size; omega)).trans (h1.block i hi k)
        have h4 : Fr (fun i => i = a ∨ i = V.b) w3 w4 := HF4.out.mono fun i _ h => by rw [act_b] at h; exact h
        exact h3.trans h4
      have hfoot : Fr (Foot a V) w w4 := hfr.mono fun i _ h => h.imp id Or.inl
      have hrow : ∀ g ∈ V.F, OwnF w4 B g := fun g hg => (HH.out.own g hg).fr hfr fun b e k => by
        have hn := HH.out.not_a hg
        rcases k with k | k
        · exact hn.1 (by rw [e, k])
        · exact hn.2 (by rw [e, k])
      have hap : ∀ g ∈ V.F, g.name ≠ nm → apartF ⟨nm, fA, fn, fc, fn, fb⟩ g := fun g hg hne => by
        have hx : apartF ⟨nm, fA, fn, fc, fs, fb⟩ g := by
          obtain ⟨i, hi, e1⟩ := List.getElem_of_mem HFM.out
          obtain ⟨j, hj, e2⟩ := List.getElem_of_mem hg
          rcases Nat.lt_trichotomy i j with h | h | h
          · have := List.pairwise_iff_getElem.1 HH.out.apart i j hi hj h; rw [e1, e2] at this; exact this
          · subst h; rw [e1] at e2; rw [← e2] at hne; exact absurd rfl hne
          · have := List.pairwise_iff_getElem.1 HH.out.apart j i hj hi h; rw [e1, e2] at this; exact this.symm
        exact hx
      refine ⟨putZ (actZ V) ⟨nm, fA, fn, fc, fn, fb⟩, by rw [HS.out, if_neg hk]; rfl, ?_, put_left HH.out (act_F V) (act_b V) (act_room V) HV4.out hfoot (fun g hg _ => hrow g hg) (by have h := hrow _ HFM.out; exact h) (by have h := HH.out.byt _ HFM.out; exact h) (Nat.le_refl _) (by have h := HH.out.name _ HFM.out; exact h) hap ?_ ?_ ?_⟩
      · rw [HS.out, if_neg hk]
        show normZ (putZ (actZ V) _) = putZ (actZ (normZ V)) _
        rw [← norm_act]
        unfold normZ putZ
        simp only [norm_put]; rfl
      · have h1 := used_put HH.out.core.one ⟨nm, fA, fn, fc, fn, fb⟩
        simp only [HL.out, Option.map_some, Option.getD_some] at h1
        have := HH.out.used
        omega
      · have h1 := len_put_some (f := ⟨nm, fA, fn, fc, fn, fb⟩) HL.out
        have := HH.out.len
        omega
      · exact fun b hb => .inl (.inr (.inr ⟨_, HFM.out, hb⟩))
end Go.Proofs.YthogafecplhckaaDoor
