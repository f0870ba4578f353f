/- The document's vault: where it lies; find. -/
import Derived.Test.YtaahomohhagcoaaR
namespace Go.Proofs.Ytaahomohhagcoaa
open Go.RowKit Go.Maps Go.Shelf Go.Lib
set_option linter.unusedSimpArgs false
set_option linter.unusedVariables false
/-- How many are below a text. -/
def upto : List ByteArray → ByteArray → Nat
  | [], _ => 0
  | a :: D, s => if ltT a s then upto D s + 1 else 0
theorem upto_le (D : List ByteArray) (s : ByteArray) : upto D s ≤ D.length := by
  induction D with
  | nil => exact Nat.le_refl _
  | cons a D ih => unfold upto; split <;> simp <;> omega
theorem upto_spec : ∀ {D : List ByteArray} (hr : rising D) (s : ByteArray) (t : Nat) (h : t < D.length), ltT D[t] s ↔ t < upto D s := by
  intro D
  induction D with
  | nil => intro _ s t h; simp at h
  | cons a D ih =>
    intro hr s t h
    obtain ⟨d1, d2⟩ := List.pairwise_cons.1 hr
    unfold upto
    cases t with
    | zero => simp only [List.getElem_cons_zero]; split <;> simp_all
    | succ t =>
      have ht : t < D.length := by simpa using h
      have := ih d2 s t ht
      simp only [List.getElem_cons_succ, this]
      split
      · omega
      · rename_i hna
        constructor
        · intro h1; exact absurd (lt_tr (d1 _ (List.getElem_mem ht)) (this.2 h1)) hna
        · intro h1; omega
theorem upto_mem {D : List ByteArray} (hr : rising D) (s : ByteArray) : s ∈ D ↔ ∃ h : upto D s < D.length, D[upto D s] = s := by
  constructor
  · intro h
    obtain ⟨i, hi, rfl⟩ := List.mem_iff_getElem.1 h
    have h1 : ¬ i < upto D D[i] := fun k => lt_irr _ ((upto_spec hr D[i] i hi).2 k)
    have h2 : ¬ upto D D[i] < i := fun k => by
      have := (upto_spec hr D[i] (upto D D[i]) (by omega)).1 (rising_lt hr k hi); omega
    have e : upto D D[i] = i := by omega
    exact ⟨by omega, by simp only [e]⟩
  · rintro ⟨h, e⟩; rw [← e]; exact List.getElem_mem h
theorem less_bool (a b : ByteArray) : Op.bytesLess a.toList b.toList = decide (ltT a b) := by
  rw [bytesLess_eq, ByteArray.toList_eq, ByteArray.toList_eq]; rfl

theorem look_cons (g : FZ) (F : List FZ) (s : ByteArray) : lookF (g :: F) s = if g.name = s then some g else lookF F s := by
  unfold lookF
  by_cases h : g.name = s
  · rw [if_pos h, List.find?_cons_of_pos (by rw [h]; simp)]
  · rw [if_neg h, List.find?_cons_of_neg (by simp only [beq_iff_eq]; exact fun e => h (dat_inj e))]
theorem drop_cons (g : FZ) (F : List FZ) (s : ByteArray) : dropF (g :: F) s = if g.name = s then dropF F s else g :: dropF F s := by
  unfold dropF
  by_cases h : g.name = s
  · rw [if_pos h, List.filter_cons_of_neg (by rw [h]; simp)]
  · rw [if_neg h, List.filter_cons_of_pos (by simp only [Bool.not_eq_true', beq_eq_false_iff_ne]; exact fun e => h (dat_inj e))]
theorem up_cons (g : FZ) (F : List FZ) (s : ByteArray) : upto (namesF (g :: F)) s = if ltT g.name s then upto (namesF F) s + 1 else 0 := rfl
theorem ltT_bb (a b : ByteArray) : bytesBefore (dat a) (dat b) = true ↔ ltT a b := bb_lt _ _
theorem behind_none {g : FZ} {F : List FZ} (h : oneEach (g :: F)) {s : ByteArray} (hs : ¬ ltT g.name s) : lookF F s = none := by
  have hc := List.pairwise_cons.1 h
  unfold lookF
  refine List.find?_eq_none.2 fun f hf => ?_
  simp only [beq_iff_eq]
  intro e
  have h1 := (ltT_bb _ _).1 (hc.1 f hf)
  rw [dat_inj e] at h1
  exact hs h1
theorem drop_split : ∀ {F : List FZ} (h : oneEach F) {s : ByteArray} (hs : (lookF F s).isSome = true), dropF F s = F.take (upto (namesF F) s) ++ F.drop (upto (namesF F) s + 1) := by
  intro F
  induction F with
  | nil => intro _ s hs; cases hs
  | cons g F ih =>
    intro h s hs
    have hc := List.pairwise_cons.1 h
    rw [drop_cons, up_cons]
    rw [look_cons] at hs
    by_cases e : g.name = s
    · rw [if_pos e, if_neg (by rw [e]; exact lt_irr s), drop_none (behind_none h (by rw [e]; exact lt_irr s))]; rfl
    · rw [if_neg e] at hs ⊢
      by_cases l : ltT g.name s
      · rw [if_pos l, ih hc.2 hs]; rfl
      · rw [behind_none h l] at hs; cases hs
theorem put_split : ∀ {F : List FZ} (h : oneEach F) (f : FZ), putF F f = F.take (upto (namesF F) f.name) ++ f :: F.drop (upto (namesF F) f.name + if (lookF F f.name).isSome then 1 else 0) := by
  intro F
  induction F with
  | nil => intro _ f; rfl
  | cons g F ih =>
    intro h f
    have hc := List.pairwise_cons.1 h
    unfold putF
    rw [drop_cons, up_cons, look_cons]
    by_cases e : g.name = f.name
    · have hn := behind_none h (s := f.name) (by rw [e]; exact lt_irr _)
      rw [if_pos e, if_pos e, if_neg (by rw [e]; exact lt_irr _), drop_none hn]
      show insF f F = f :: F
      cases F with
      | nil => rfl
      | cons x F =>
        rw [ins_cons, if_pos]
        have := hc.1 x (List.mem_cons_self ..)
        rw [e] at this; exact this
    · rw [if_neg e, if_neg e, ins_cons]
      by_cases l : ltT g.name f.name
      · rw [if_neg (fun hb => lt_asy l ((ltT_bb _ _).1 hb)), if_pos l]
        have := ih hc.2 f
        unfold putF at this
        rw [this]
        show _ = (g :: F).take (upto (namesF F) f.name + 1) ++ f :: (g :: F).drop (upto (namesF F) f.name + 1 + _)
        rw [Nat.add_right_comm]; rfl
      · have hn := behind_none h l
        have hb : bytesBefore (dat f.name) (dat g.name) = true := (ltT_bb _ _).2 (by
          rcases lt_tri g.name f.name with h1 | h1 | h1
          · exact absurd h1 l
          · exact absurd h1 e
          · exact h1)
        rw [if_pos hb, if_neg l, hn, drop_none hn]; rfl
theorem look_at {F : List FZ} (h : oneEach F) {s : ByteArray} {f : FZ} (hf : lookF F s = some f) : ∃ hu : upto (namesF F) s < F.length, F[upto (namesF F) s] = f := by
  obtain ⟨h1, h2⟩ := look_name hf
  have hm : s ∈ namesF F := by unfold namesF; exact List.mem_map.2 ⟨f, h2, h1⟩
  obtain ⟨hu, he⟩ := (upto_mem (names_rising h) s).1 hm
  have hu2 : upto (namesF F) s < F.length := by unfold namesF at hu ⊢; rw [List.length_map] at hu; exact hu
  refine ⟨hu2, ?_⟩
  have h3 := look_some h (List.getElem_mem hu2)
  have h4 : F[upto (namesF F) s].name = s := by simpa [namesF] using he
  rw [h4, hf] at h3
  exact (Option.some.inj h3).symm
/-- A file's cells, and those of a list of files. -/
def encF (f : FZ) : List Value := [.string f.name, .slice f.A f.n f.c, .int .i64 f.safe]
def cellsF (F : List FZ) : List Value := F.flatMap encF
theorem cellsF_cons (f : FZ) (F : List FZ) : cellsF (f :: F) = encF f ++ cellsF F := by simp [cellsF]
theorem cellsF_app (F G : List FZ) : cellsF (F ++ G) = cellsF F ++ cellsF G := by simp [cellsF]
theorem cellsF_length : ∀ F : List FZ, (cellsF F).length = F.length * 3 := by
  intro F
  induction F with
  | nil => rfl
  | cons f F ih => rw [cellsF_cons, List.length_append, ih, List.length_cons]; simp [encF]; omega
theorem one_cellsF (F : List FZ) : ∀ u ∈ cellsF F, u.oneCell' = true := by
  intro u hu
  obtain ⟨f, _, h⟩ := List.mem_flatMap.1 hu
  simp only [encF, List.mem_cons, List.not_mem_nil, or_false] at h
  rcases h with rfl | rfl | rfl <;> rfl
theorem cellsF_get : ∀ (F : List FZ) (k : Nat) (h : k < F.length) (j : Nat) (u : Value), (encF F[k])[j]? = some u → (cellsF F)[k * 3 + j]? = some u := by
  intro F
  induction F with
  | nil => intro k h; simp at h
  | cons z F ih =>
    intro k h j u hu
    have hj : j < 3 := by
      rcases Nat.lt_or_ge j 3 with h | h
      · exact h
      · rw [List.getElem?_eq_none (by simpa [encF] using h)] at hu; cases hu
    rw [cellsF_cons]
    cases k with
    | zero => rw [List.getElem?_append_left (by simp [encF]; omega)]; simpa using hu
    | succ k =>
      rw [List.getElem?_append_right (by simp [encF]; omega)]
      have e : (k + 1) * 3 + j - (encF z).length = k * 3 + j := by simp [encF]; omega
      rw [e]
      exact ih k (by simpa using h) j u (by simpa using hu)
theorem file_cells {w : World} {A : Option Addr} {F : List FZ} (h : Row w A (cellsF F)) {k : Nat} (hk : k < F.length) :
    ∃ b off, A = some ⟨b, off, none⟩ ∧ w.cell? ⟨b, off + k * 3, none⟩ = some (.string F[k].name) ∧ w.cell? ⟨b, off + k * 3 + 1, none⟩ = some (.slice F[k].A F[k].n F[k].c) ∧ w.cell? ⟨b, off + k * 3 + 2, none⟩ = some (.int .i64 F[k].safe) := by
  have g := fun j u hu => cellsF_get F k hk j u hu
  rcases h with h | ⟨b, off, rfl, hc⟩
  · have := cellsF_length F
    rw [h] at this; simp at this; omega
  · exact ⟨b, off, rfl, hc _ _ (g 0 _ rfl), hc _ _ (g 1 _ rfl), hc _ _ (g 2 _ rfl)⟩
structure RV where
  room : Nat
  fuse : Int
  A : Option Addr
  n : Nat
  c : Nat
  F : List FZ
def RRows (R : RV) (i : Nat) : Prop := (R.F ≠ [] ∧ ∃ o, R.A = some ⟨i, o, none⟩) ∨ ∃ f ∈ R.F, f.bs ≠ [] ∧ ∃ o, f.A = some ⟨i, o, none⟩
def RFoot (a : Nat) (R : RV) (i : Nat) : Prop := i = a ∨ RRows R i
structure FileOk (w : World) (f : FZ) : Prop where
  row : Row w f.A (u8s f.bs)
  len : f.n = f.bs.length
  cap : f.n ≤ f.c
  nil : f.A = none → f.c = 0
structure RRep (w : World) (a : Nat) (R : RV) : Prop where
  blk : Blk w a 60 #[.int .i64 R.room, .int .i64 R.fuse, .slice R.A R.n R.c]
  row : Row w R.A (cellsF R.F)
  len : R.n = R.F.length
  cap : R.n ≤ R.c
  nil : R.A = none → R.c = 0
  files : ∀ f ∈ R.F, FileOk w f
  far : ∀ i, RRows R i → i ≠ a
theorem RRep.lt {w : World} {a : Nat} {R : RV} (h : RRep w a R) {i : Nat} (hi : RFoot a R i) : i < w.heap.size := by
  rcases hi with rfl | ⟨hne, o, e⟩ | ⟨f, hf, hne, o, e⟩
  · exact h.blk.lt
  · rcases h.row with h1 | ⟨b, off, e1, hc⟩
    · have := cellsF_length R.F
      rw [h1] at this
      exact absurd (List.eq_nil_of_length_eq_zero (by simp at this; omega)) hne
    · rw [e1] at e; cases e
      cases hF : R.F with
      | nil => exact absurd hF hne
      | cons f F => rw [hF] at hc; exact lt_of_cell (hc 0 _ rfl)
  · rcases (h.files f hf).row with h1 | ⟨b, off, e1, hc⟩
    · exact absurd (by simpa [u8s] using h1) hne
    · rw [e1] at e; cases e
      cases hb : f.bs with
      | nil => exact absurd hb hne
      | cons x l => rw [hb] at hc; exact lt_of_cell (hc 0 _ rfl)
theorem Row.fr' {w w' : World} {A : Option Addr} {xs : List Value} {S : Nat → Prop} (h : Row w A xs) (hf : Fr S w w') (hs : xs ≠ [] → ∀ b o, A = some ⟨b, o, none⟩ → ¬ S b) : Row w' A xs := by
  by_cases e : xs = []
  · exact .inl e
  · exact h.fr hf (hs e)
theorem FileOk.fr {w w' : World} {f : FZ} {S : Nat → Prop} (h : FileOk w f) (hf : Fr S w w') (hs : f.bs ≠ [] → ∀ b o, f.A = some ⟨b, o, none⟩ → ¬ S b) : FileOk w' f :=
  { h with row := h.row.fr' hf fun hne => hs fun e => hne (by rw [e]; rfl) }
theorem RRep.fr {w w' : World} {a : Nat} {R : RV} {S : Nat → Prop} (h : RRep w a R) (hf : Fr S w w') (hs : ∀ i, RFoot a R i → ¬ S i) : RRep w' a R :=
  { h with
    blk := (hf.block a h.blk.lt (hs a (.inl rfl))).trans h.blk
    row := h.row.fr' hf fun hne b o e => hs b (.inr (.inl ⟨fun e2 => hne (by rw [e2]; rfl), o, e⟩))
    files := fun f hfm => (h.files f hfm).fr hf fun hne b o e => hs b (.inr (.inr ⟨f, hfm, hne, o, e⟩)) }
theorem RRep.below {w w' : World} {a : Nat} {R : RV} (h : RRep w a R) (hb : Below w.heap.size w w') : RRep w' a R := h.fr (S := fun _ => False) (Fr.of_below hb) fun _ _ h => h
def FindP (w : World) (F : List FZ) (s : ByteArray) (e : Ending) (w' : World) : Prop := e = .returned (.tuple #[.int .i64 (upto (namesF F) s : Nat), .bool (lookF F s).isSome]) ∧ ∃ m, w' = w.drewN m
set_option maxRecDepth 100000 in
set_option maxHeartbeats 8000000 in
theorem find_any (a : Nat) (R : RV) (s : ByteArray) (w : World) (h : RRep w a R) (ho : oneEach R.F) (hl : R.F.length ≤ 1000000) : Calls Try.prog 41 #[.pointer (some ⟨a, 0, none⟩), .string s] w (FindP w R.F s) := by
  obtain ⟨A, F⟩ : ∃ p : Option Addr × List FZ, p = (R.A, R.F) := ⟨_, rfl⟩
  have HH := Lib.hid h
  have HO := Lib.hid ho
  have c2 := h.blk.cell 2
  simp at c2
  obtain ⟨u, hu⟩ : ∃ u, u = upto (namesF R.F) s := ⟨_, rfl⟩
  have hnl : (namesF R.F).length = R.F.length := by unfold namesF; rw [List.length_map]
  have hun : u ≤ R.n := by rw [hu, h.len, ← hnl]; exact upto_le _ _
  have HU := Lib.hid hu
  obtain ⟨q, hq⟩ : ∃ q, q = (lookF R.F s).isSome := ⟨_, rfl⟩
  have HQ := Lib.hid hq
  have HM := Lib.hid (show (lookF R.F s).isSome = true ↔ ∃ h : u < R.F.length, R.F[u].name = s from by
    rw [← mem_names (s := s) ho, upto_mem (names_rising ho) s]
    subst hu
    constructor
    · rintro ⟨h1, h2⟩
      exact ⟨by rw [hnl] at h1; exact h1, by simpa [namesF] using h2⟩
    · rintro ⟨h1, h2⟩
      exact ⟨by rw [hnl]; exact h1, by simpa [namesF] using h2⟩)
  obtain ⟨n, hn⟩ : ∃ n, n = R.n := ⟨_, rfl⟩
  have hcap : n ≤ R.c := by rw [hn]; exact h.cap
  have HN := Lib.hid (show n = R.F.length by rw [hn]; exact h.len)
  have hn2 : n ≤ 1000000 := by rw [hn, h.len]; exact hl
  have HP := Lib.hid (show ∀ m, FindP w R.F s (.returned (.tuple #[.int .i64 (u : Nat), .bool q])) (w.drewN m) from fun m => ⟨by rw [hu, hq], m, rfl⟩)
  rw [← hn] at c2 hun
  clear h ho hu hq hn hl
  go_enter Try.func41, Try.ntmps41
  go_wp2_with fail
  go_loop [6] (fun i => ∃ k : Nat, k ≤ u ∧ i = .int .i64 k) (fun i => n - (intOf i).toNat)
  case atStart => exact ⟨0, Nat.zero_le _, rfl⟩
  case round =>
    obtain ⟨k, hk, rfl⟩ := hrel
    by_cases hlt : k < n
    · have hkz : k < R.F.length := by have := HN.out; omega
      have hki : (k : Int) < (n : Int) := by omega
      have hk0 : (0 : Int) ≤ (k : Int) := by omega
      obtain ⟨b, off, hAe, d0, _, _⟩ := file_cells HH.out.row hkz
      rw [hAe] at c2
      obtain ⟨x, hx⟩ : ∃ x, x = R.F[k].name := ⟨_, rfl⟩
      rw [← hx] at d0
      have HLT := Lib.hid (show ltT x s ↔ k < u by
        have h1 := upto_spec (names_rising HO.out) s k (by rw [hnl]; exact hkz)
        rw [HU.out, ← h1, hx]; simp [namesF])
      have hx2 := hx
      clear hx
      by_cases hku : k < u
      · have hb : Op.bytesLess x.toList s.toList = true := by rw [less_bool, decide_eq_true_iff]; exact HLT.out.2 hku
        clear hlt hx2
        go_wp2_with fail
        go_round
        case rel => exact ⟨k + 1, by omega, by go_num⟩
        case measure => simp [intOf]; omega
      · have hb : Op.bytesLess x.toList s.toList = false := by rw [less_bool, decide_eq_false_iff_not]; exact fun h => hku (HLT.out.1 h)
        obtain rfl : k = u := by omega
        have HXN := Lib.hid hx2
        clear hx2
        by_cases hxs : x = s
        · subst hxs
          obtain rfl : q = true := by
            rw [HQ.out]
            exact HM.out.2 ⟨hkz, HXN.out.symm⟩
          clear hlt hku hk
          go_wp2_with fail
          go_quiet (fail)
          go_wp2_with fail
          go_ret2
          exact HP.out _
        · obtain rfl : q = false := by
            rw [HQ.out, Bool.eq_false_iff]
            intro hq
            obtain ⟨h1, h2⟩ := HM.out.1 hq
            exact hxs (HXN.out.trans h2)
          have hne := str_ne hxs
          clear hlt hku hk
          go_wp2_with fail
          go_quiet (fail)
          go_wp2_with fail
          go_ret2
          exact HP.out _
    · obtain rfl : k = u := by omega
      obtain rfl : k = n := by omega
      obtain rfl : q = false := by
        rw [HQ.out, Bool.eq_false_iff]
        intro hq
        obtain ⟨h1, h2⟩ := HM.out.1 hq
        rw [← HN.out] at h1
        exact Nat.lt_irrefl _ h1
      have hge : ¬ (k : Int) < (k : Int) := by omega
      clear hlt hk
      go_wp2_with fail
      go_quiet (fail)
      go_wp2_with fail
      go_ret2
      exact HP.out _
end Go.Proofs.Ytaahomohhagcoaa
