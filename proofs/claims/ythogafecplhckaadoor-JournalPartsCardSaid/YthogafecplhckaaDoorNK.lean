/- What Append does to a vault: plain facts. -/
import Derived.Test.YthogafecplhckaaDoorNJ
namespace Go.Proofs.YthogafecplhckaaDoor
open Go.RowKit
set_option linter.unusedSimpArgs false
set_option linter.unusedVariables false
/-- A file's bytes, and how many are safe. -/
def cntZ (P : VZ) (s : ByteArray) : List Int := (lkF P.F s).bs
def sfZ (P : VZ) (s : ByteArray) : Nat := (lkF P.F s).safe
structure VOk (P : VZ) : Prop where
  one : oneEach P.F
  n : ∀ f ∈ P.F, f.n = f.bs.length ∧ f.A = none ∧ f.c = 0
theorem VOk.lk {P : VZ} (h : VOk P) (s : ByteArray) : (lkF P.F s).n = (lkF P.F s).bs.length ∧ (lkF P.F s).name = s := by
  unfold lkF
  cases hl : lookF P.F s with
  | none => exact ⟨rfl, rfl⟩
  | some f => exact ⟨(h.n f (look_name hl).2).1, (look_name hl).1⟩
theorem lk_put {F : List FZ} {f : FZ} {t : ByteArray} : lkF (putF F f) t = if f.name = t then f else lkF F t := by
  unfold lkF
  rw [look_put]
  split <;> rfl
theorem VOk.put {P : VZ} (h : VOk P) {f : FZ} (hf : f.n = f.bs.length ∧ f.A = none ∧ f.c = 0) : VOk (putZ P f) := ⟨one_put h.one f, fun g hg => by
  rcases mem_put.1 hg with rfl | ⟨h1, _⟩
  · exact hf
  · exact h.n g h1⟩
theorem VOk.lkA {P : VZ} (h : VOk P) (s : ByteArray) : (lkF P.F s).A = none ∧ (lkF P.F s).c = 0 := by
  unfold lkF
  cases hl : lookF P.F s with
  | none => exact ⟨rfl, rfl⟩
  | some f => exact (h.n f (look_name hl).2).2
theorem act_armed (P : VZ) : (actZ P).armed = P.armed := by unfold actZ; split <;> rfl
theorem VOk.act {P : VZ} (h : VOk P) : VOk (actZ P) := ⟨by rw [act_F]; exact h.one, by rw [act_F]; exact h.n⟩
theorem brk_off {P : VZ} (h : P.armed = false) : brkZ P = false := by unfold brkZ; rw [h]; rfl
theorem brk_act {P : VZ} (h : brkZ P = true) : actZ P = P := by
  unfold brkZ at h
  simp only [Bool.and_eq_true, beq_iff_eq] at h
  unfold actZ
  rw [if_neg (by omega)]
theorem look_put_same {F : List FZ} {f : FZ} : lookF (putF F f) f.name = some f := by rw [look_put, if_pos rfl]
/-- What Append leaves when all goes well. -/
structure Appd (P P' : VZ) (s : ByteArray) (bs : List Int) : Prop where
  ok : VOk P'
  room : P'.room = P.room
  armed : P'.armed = P.armed
  cnt : cntZ P' s = cntZ P s ++ bs
  far : ∀ t, t ≠ s → cntZ P' t = cntZ P t ∧ sfZ P' t = sfZ P t
  used : usedF P'.F = usedF P.F + bs.length
  len : P'.F.length ≤ P.F.length + 1
theorem lk_n_used {F : List FZ} (f : FZ) (h : oneEach F) : ((lookF F f.name).map FZ.n).getD 0 = (lkF F f.name).n := by
  unfold lkF; cases lookF F f.name <;> rfl
theorem put_appd {P Q : VZ} {s : ByteArray} {bs : List Int} (h : VOk P) (hF : Q.F = P.F) (hr : Q.room = P.room) (ha : Q.armed = P.armed) : Appd P (putZ Q (addF (lkF P.F s) bs)) s bs := by
  have hn := h.lk s
  have hA := h.lkA s
  have hQ : VOk Q := ⟨by rw [hF]; exact h.one, by rw [hF]; exact h.n⟩
  have hname : (addF (lkF P.F s) bs).name = s := hn.2
  refine ⟨hQ.put ⟨by show (lkF P.F s).n + bs.length = ((lkF P.F s).bs ++ bs).length; rw [hn.1, List.length_append], hA.1, hA.2⟩, hr, ha, ?_, fun t ht => ?_, ?_, ?_⟩
  · show (lkF (putF Q.F (addF (lkF P.F s) bs)) s).bs = _
    rw [lk_put, if_pos hname]; rfl
  · show (lkF (putF Q.F (addF (lkF P.F s) bs)) t).bs = _ ∧ (lkF (putF Q.F (addF (lkF P.F s) bs)) t).safe = _
    rw [lk_put, if_neg (by rw [hname]; exact fun e => ht e.symm), hF]
    exact ⟨rfl, rfl⟩
  · show usedF (putF Q.F (addF (lkF P.F s) bs)) = _
    have h1 := used_put (F := Q.F) (by rw [hF]; exact h.one) (addF (lkF P.F s) bs)
    rw [lk_n_used _ (by rw [hF]; exact h.one), hname, hF] at h1
    have h2 : (addF (lkF P.F s) bs).n = (lkF P.F s).n + bs.length := rfl
    rw [hF]
    omega
  · show (putF Q.F _).length ≤ _
    rw [hF]; exact len_put _ _
theorem putF_twice {F : List FZ} {f g : FZ} (h : oneEach F) (hn : g.name = f.name) : putF (putF F f) g = putF F g := by
  refine look_ext (one_put (one_put h f) g) (one_put h g) fun t => ?_
  rw [look_put, look_put, look_put]
  by_cases h1 : g.name = t
  · rw [if_pos h1, if_pos h1]
  · rw [if_neg h1, if_neg h1, if_neg (by rw [← hn]; exact h1)]
theorem sync_put {P Q : VZ} {s : ByteArray} {bs : List Int} {f : FZ} (h : Appd P Q s bs) (hl : lookF Q.F s = some f) (R : VZ) (hF : R.F = Q.F) (hr : R.room = Q.room) (ha : R.armed = Q.armed) : Appd P (putZ R { f with safe := f.n }) s bs ∧ sfZ (putZ R { f with safe := f.n }) s = (cntZ P s ++ bs).length := by
  have hf := look_name hl
  have hlk : lkF Q.F s = f := by unfold lkF; rw [hl]; rfl
  have hfn := h.ok.n f hf.2
  have hc : f.bs = cntZ P s ++ bs := by rw [← h.cnt, cntZ, hlk]
  have hR : VOk R := ⟨by rw [hF]; exact h.ok.one, by rw [hF]; exact h.ok.n⟩
  have hname : ({ f with safe := f.n } : FZ).name = s := hf.1
  refine ⟨⟨hR.put ⟨hfn.1, hfn.2.1, hfn.2.2⟩, hr.trans h.room, ha.trans h.armed, ?_, fun t ht => ?_, ?_, ?_⟩, ?_⟩
  · show (lkF (putF R.F _) s).bs = _
    rw [lk_put, if_pos hname]; exact hc
  · show (lkF (putF R.F { f with safe := f.n }) t).bs = _ ∧ (lkF (putF R.F { f with safe := f.n }) t).safe = _
    rw [lk_put, if_neg (by rw [hname]; exact fun e => ht e.symm), hF]
    exact h.far t ht
  · show usedF (putF R.F { f with safe := f.n }) = _
    obtain ⟨g, hg⟩ : ∃ g : FZ, g = { f with safe := f.n } := ⟨_, rfl⟩
    have hgn : g.name = s := by rw [hg]; exact hf.1
    have hg2 : g.n = f.n := by rw [hg]
    rw [← hg]
    have h1 := used_put (F := R.F) (by rw [hF]; exact h.ok.one) g
    rw [lk_n_used _ (by rw [hF]; exact h.ok.one), hgn, hF, hlk, hg2] at h1
    have h3 := h.used
    rw [hF]
    omega
  · show (putF R.F { f with safe := f.n }).length ≤ _
    have h1 := len_put_some (F := R.F) (f := { f with safe := f.n }) (g := f) (by rw [hF]; show lookF Q.F f.name = some f; rw [hf.1]; exact hl)
    rw [hF] at h1 ⊢
    have := h.len
    omega
  · show (lkF (putF R.F { f with safe := f.n }) s).safe = _
    rw [lk_put, if_pos hname]
    show f.n = _
    rw [hfn.1, hc]
/-- Append: it went well; the fuse burnt ahead of it; it burnt between. -/
inductive JCase (P : VZ) (s : ByteArray) (bs : List Int) : VZ × Int → Prop
  | well (P' : VZ) (h : Appd P P' s bs) (hs : sfZ P' s = (cntZ P s ++ bs).length) (hb : brkZ P' = false) : JCase P s bs (P', 0)
  | none (P' : VZ) (hF : P'.F = P.F) (hr : P'.room = P.room) (hb : brkZ P' = true) : JCase P s bs (P', 272)
  | half (P' : VZ) (h : Appd P P' s bs) (hs : sfZ P' s = sfZ P s) (hb : brkZ P' = true) : JCase P s bs (P', 272)
theorem app_brk {P : VZ} {s : ByteArray} {bs : List Int} (hn : nameB s = true) (hb : brkZ (actZ P) = true) : appendS P s bs = (actZ P, 272) := by
  unfold appendS
  rw [if_neg (by rw [hn]; simp), if_pos hb]
theorem app_ok {P : VZ} {s : ByteArray} {bs : List Int} (hn : nameB s = true) (hb : brkZ (actZ P) = false) (hu : usedF P.F + bs.length ≤ P.room) (hl : P.F.length < 200) : appendS P s bs = (putZ (actZ P) (addF (lkF P.F s) bs), 0) := by
  unfold appendS
  rw [if_neg (by rw [hn]; simp), if_neg (by rw [hb]; simp), if_neg (show ¬ fullZ P s bs.length from fun hf => by
      rcases hf with h1 | ⟨_, h1⟩ <;> omega)]
theorem japp_case {P : VZ} {s : ByteArray} {bs : List Int} (h : VOk P) (hn : nameB s = true) (hu : usedF P.F + bs.length ≤ P.room) (hl : P.F.length < 200) : JCase P s bs (jappS P s bs) := by
  cases hb : brkZ (actZ P) with
  | true =>
    unfold jappS
    rw [app_brk hn hb, if_neg (by simp)]
    exact .none _ (act_F P) (act_room P) hb
  | false =>
    unfold jappS
    rw [app_ok hn hb hu hl, if_pos rfl]
    have hA := put_appd (Q := actZ P) (s := s) (bs := bs) h (act_F P) (act_room P) (act_armed P)
    have hlk : lookF (putZ (actZ P) (addF (lkF P.F s) bs)).F s = some (addF (lkF P.F s) bs) := by
      show lookF (putF _ _) s = _
      rw [look_put, if_pos (show (addF (lkF P.F s) bs).name = s from (h.lk s).2)]
    unfold syncS
    rw [hlk]
    simp only []
    cases hb2 : brkZ (actZ (putZ (actZ P) (addF (lkF P.F s) bs))) with
    | true =>
      rw [if_pos rfl]
      refine .half _ ⟨hA.ok.act, (act_room _).trans hA.room, (act_armed _).trans hA.armed, by unfold cntZ; rw [act_F]; exact hA.cnt, fun t ht => by unfold cntZ sfZ; rw [act_F]; exact hA.far t ht, by rw [act_F]; exact hA.used, by rw [act_F]; exact hA.len⟩ ?_ hb2
      unfold sfZ
      rw [act_F]
      show (lkF (putF _ _) s).safe = _
      rw [lk_put, if_pos (show (addF (lkF P.F s) bs).name = s from (h.lk s).2)]
      rfl
    | false =>
      rw [if_neg (by simp)]
      obtain ⟨h1, h2⟩ := sync_put hA hlk (actZ (putZ (actZ P) (addF (lkF P.F s) bs))) (act_F _) (act_room _) (act_armed _)
      exact .well _ h1 h2 hb2
theorem japp_free {P : VZ} {s : ByteArray} {bs : List Int} (h : VOk P) (ha : P.armed = false) (hn : nameB s = true) (hu : usedF P.F + bs.length ≤ P.room) (hl : P.F.length < 200) : ∃ P', jappS P s bs = (P', 0) ∧ Appd P P' s bs ∧ sfZ P' s = (cntZ P s ++ bs).length := by
  have hc := japp_case h hn hu hl
  have h0 : (jappS P s bs).1.armed = false := by
    generalize hX : jappS P s bs = X at hc
    cases hc with
    | well P' h1 _ _ => exact h1.armed.trans ha
    | none P' hF hr hb =>
      unfold jappS at hX
      rw [app_ok hn (brk_off ((act_armed P).trans ha)) hu hl, if_pos rfl] at hX
      unfold syncS at hX
      split at hX
      · cases hX
      · rw [if_neg (by rw [brk_off (by rw [act_armed]; exact (act_armed P).trans ha)]; simp)] at hX
        cases hX
    | half P' h1 _ _ => exact h1.armed.trans ha
  generalize hX : jappS P s bs = X at hc h0
  cases hc with
  | well P' h1 h2 _ => exact ⟨P', rfl, h1, h2⟩
  | none P' _ _ hb => rw [brk_off h0] at hb; cases hb
  | half P' _ _ hb => rw [brk_off h0] at hb; cases hb
theorem japp_broken {P : VZ} {s : ByteArray} {bs : List Int} (hn : nameB s = true) (hb : brkZ P = true) : jappS P s bs = (P, 272) := by
  unfold jappS
  rw [app_brk hn (by rw [brk_act hb]; exact hb), if_neg (by simp), brk_act hb]
theorem VOk.norm {w : World} {B a : Nat} {V : VZ} (h : VRep w B a V) : VOk (normZ V) := ⟨by
  show oneEach (V.F.map normF)
  unfold oneEach
  rw [List.pairwise_map]
  exact h.core.one, fun f hf => by
  obtain ⟨g, hg, rfl⟩ := List.mem_map.1 hf
  exact ⟨(h.own g hg).n, rfl, rfl⟩⟩
theorem cnt_norm (V : VZ) (s : ByteArray) : cntZ (normZ V) s = (lkF V.F s).bs := by
  unfold cntZ
  show (lkF (V.F.map normF) s).bs = _
  rw [norm_lk]; rfl
/-- What a crash leaves of a file. -/
theorem crash_cnt (P : VZ) (t : Int) (h : VOk P) (hs : ∀ f ∈ P.F, f.safe ≤ f.n) (s : ByteArray) : cntZ (crashS t P) s = (cntZ P s).take (kOf t (cntZ P s).length (sfZ P s)) := by
  unfold cntZ sfZ
  show (lkF (P.F.map (chF (kC t))) s).bs = _
  have hl : lookF (P.F.map (chF (kC t))) s = (lookF P.F s).map (chF (kC t)) := by unfold lookF; rw [List.find?_map]; rfl
  unfold lkF
  rw [hl]
  cases hf : lookF P.F s with
  | none => simp
  | some f =>
    have hfm := (look_name hf).2
    show (f.bs.take (kC t f.n f.safe).1) = f.bs.take (kOf t f.bs.length f.safe)
    unfold kC
    rw [if_pos (hs f hfm), (h.n f hfm).1]
end Go.Proofs.YthogafecplhckaaDoor
