/- What Decode reads: plain facts. The closures that Decode reads by; take (43, 73). -/
import Derived.Test.YthogafecplhckaaDoorNB
import Derived.Test.YthogafecplhckaaDoorTU
import Derived.Test.YthogafecplhckaaDoorVBE
namespace Go.Proofs.YthogafecplhckaaDoor
open Go.RowKit Go.Lib
set_option linter.unusedSimpArgs false
set_option linter.unusedVariables false
/-- A number within limits, and what is left. -/
def readI (lo hi : Int) (bs : List Int) : Option (Int × List Int) := if 0 < (numP bs).2 ∧ lo ≤ (numP bs).1 ∧ (numP bs).1 ≤ hi then some ((numP bs).1, bs.drop (numP bs).2) else none
/-- A text, and what is left. -/
def readT (hi : Int) (bs : List Int) : Option (ByteArray × List Int) :=
  if 0 < (numP bs).2 ∧ 0 ≤ (numP bs).1 ∧ (numP bs).1 ≤ hi ∧ (numP bs).1 ≤ (bs.length : Int) - (numP bs).2 then some (strOfNums ((bs.drop (numP bs).2).take (numP bs).1.toNat), bs.drop ((numP bs).2 + (numP bs).1.toNat)) else none
theorem readI_enc {lo hi v : Int} (h1 : -9223372036854775808 ≤ v) (h2 : v ≤ 9223372036854775807) (l1 : lo ≤ v) (l2 : v ≤ hi) (rest : List Int) : readI lo hi (encV v ++ rest) = some (v, rest) := by
  have p1 : numP (encV v ++ rest) = (v, encG v) := numP_enc h1 h2 _
  have q1 := encG_pos v
  unfold readI
  rw [p1]
  rw [if_pos ⟨q1, l1, l2⟩]
  simp only []
  rw [drop_enc]
theorem readT_enc {hi : Int} {s : ByteArray} (hs : s.size ≤ 1000000) (h : (s.size : Int) ≤ hi) (rest : List Int) : readT hi (encT s ++ rest) = some (s, rest) := by
  have h0 : encT s ++ rest = encV (s.size : Int) ++ (sB s ++ rest) := by unfold encT; simp
  rw [h0]
  have p1 : numP (encV (s.size : Int) ++ (sB s ++ rest)) = ((s.size : Int), encG (s.size : Int)) := numP_enc (by omega) (by omega) _
  have q1 := encG_pos (s.size : Int)
  unfold readT
  rw [p1]
  rw [if_pos ⟨q1, by omega, h, by rw [List.length_append, List.length_append, encG_len, sB_length]; omega⟩]
  simp only []
  have e1 : ((s.size : Nat) : Int).toNat = s.size := by omega
  rw [e1, drop_enc, ← List.drop_drop, drop_enc]
  rw [show (sB s ++ rest).take s.size = sB s by rw [← sB_length, List.take_left], show (sB s ++ rest).drop s.size = rest by rw [← sB_length, List.drop_left], strOf_sB]
/-- What is left, or nothing: all is wrong. -/
abbrev StJ := Option (List Int)
def takeI (lo hi : Int) (s : StJ) : Int × StJ := match s with
  | none => (0, none)
  | some bs => match readI lo hi bs with
    | none => (0, none)
    | some (v, r) => (v, some r)
def takeT (s : StJ) : ByteArray × StJ := match s with
  | none => (ByteArray.empty, none)
  | some bs => match readT 24 bs with
    | none => (ByteArray.empty, none)
    | some (v, r) => (v, some r)
def takeD : Nat → StJ → List ByteArray × StJ
  | 0, s => ([], s)
  | k + 1, s => ((takeD k s).1 ++ [(takeT (takeD k s).2).1], (takeT (takeD k s).2).2)
def takeX : Nat → StJ → List Int × StJ
  | 0, s => ([], s)
  | k + 1, s => ((takeX k s).1 ++ [(takeI (-4611686018427387904) 4611686018427387904 (takeX k s).2).1], (takeI (-4611686018427387904) 4611686018427387904 (takeX k s).2).2)
theorem takeD_len (k : Nat) (s : StJ) : (takeD k s).1.length = k := by
  induction k with
  | zero => rfl
  | succ k ih => rw [takeD]; simp [ih]
theorem takeX_len (k : Nat) (s : StJ) : (takeX k s).1.length = k := by
  induction k with
  | zero => rfl
  | succ k ih => rw [takeX]; simp [ih]
theorem strOf_size (l : List Int) : (strOfNums l).size = l.length := by simp [strOfNums, ByteArray.size]
theorem readT_size {hi : Int} {bs : List Int} {s : ByteArray} {r : List Int} (h : readT hi bs = some (s, r)) : (s.size : Int) ≤ hi := by
  unfold readT at h
  split at h
  · rename_i hc
    simp only [Option.some.injEq, Prod.mk.injEq] at h
    rw [← h.1, strOf_size, List.length_take]
    omega
  · cases h
theorem takeT_size (s : StJ) : (takeT s).1.size ≤ 24 := by
  unfold takeT
  split
  · decide
  · split
    · decide
    · rename_i h
      have := readT_size h
      simp only []
      omega
theorem takeD_size (k : Nat) (s : StJ) : ∀ x ∈ (takeD k s).1, x.size ≤ 24 := by
  induction k with
  | zero => intro x hx; cases hx
  | succ k ih =>
    intro x hx
    rw [takeD] at hx
    rcases List.mem_append.1 hx with h | h
    · exact ih x h
    · rw [List.mem_singleton.1 h]; exact takeT_size _
theorem takeD_enc (D : List ByteArray) (rest : List Int) (hD : ∀ s ∈ D, s.size ≤ 24) : ∀ k, k ≤ D.length → takeD k (some ((D.map encT).flatten ++ rest)) = (D.take k, some (((D.drop k).map encT).flatten ++ rest)) := by
  intro k
  induction k with
  | zero => intro _; simp [takeD]
  | succ k ih =>
    intro hk
    rw [takeD, ih (by omega)]
    have hd : D.drop k = D[k] :: D.drop (k + 1) := List.drop_eq_getElem_cons (by omega)
    have h1 := hD D[k] (List.getElem_mem _)
    have ht : takeT (some (((D.drop k).map encT).flatten ++ rest)) = (D[k], some (((D.drop (k + 1)).map encT).flatten ++ rest)) := by
      rw [hd, List.map_cons, List.flatten_cons, List.append_assoc]
      unfold takeT
      simp only []
      rw [readT_enc (by omega) (by omega)]
    simp only []
    rw [ht, take_snoc D k (by omega)]
theorem takeX_enc (X : List Int) (rest : List Int) (hX : ∀ v ∈ X, -4611686018427387904 ≤ v ∧ v ≤ 4611686018427387904) : ∀ k, k ≤ X.length → takeX k (some ((X.map encV).flatten ++ rest)) = (X.take k, some (((X.drop k).map encV).flatten ++ rest)) := by
  intro k
  induction k with
  | zero => intro _; simp [takeX]
  | succ k ih =>
    intro hk
    rw [takeX, ih (by omega)]
    have hd : X.drop k = X[k] :: X.drop (k + 1) := List.drop_eq_getElem_cons (by omega)
    have h1 := hX X[k] (List.getElem_mem _)
    have ht : takeI (-4611686018427387904) 4611686018427387904 (some (((X.drop k).map encV).flatten ++ rest)) = (X[k], some (((X.drop (k + 1)).map encV).flatten ++ rest)) := by
      rw [hd, List.map_cons, List.flatten_cons, List.append_assoc]
      unfold takeI
      simp only []
      rw [readI_enc (by omega) (by omega) h1.1 h1.2]
    simp only []
    rw [ht, take_snoc X k (by omega)]
/-- An entry without where it lies. -/
def zJ (tick : Bool) (now t : Int) (D : List ByteArray) (X : List Int) : EZ := ⟨tick, now, ⟨none, 0, 0, none, 0, 0, t, D, X⟩⟩
/-- Two entries are one. -/
structure SameJ (a b : EZ) : Prop where
  tick : a.tick = b.tick
  now : a.now = b.now
  t : a.ev.t = b.ev.t
  D : a.ev.D = b.ev.D
  X : a.ev.X = b.ev.X
theorem SameJ.refl (a : EZ) : SameJ a a := ⟨rfl, rfl, rfl, rfl, rfl⟩
theorem SameJ.symm {a b : EZ} (h : SameJ a b) : SameJ b a := ⟨h.tick.symm, h.now.symm, h.t.symm, h.D.symm, h.X.symm⟩
theorem SameJ.trans {a b c : EZ} (h : SameJ a b) (k : SameJ b c) : SameJ a c := ⟨h.tick.trans k.tick, h.now.trans k.now, h.t.trans k.t, h.D.trans k.D, h.X.trans k.X⟩
theorem SameJ.right {L M : List ByteArray} {a b : EZ} (h : SameJ a b) (k : rightJ L M a) : rightJ L M b := by
  unfold rightJ at k ⊢
  rw [h.tick, h.now, h.t, h.D, h.X] at k
  exact k
theorem SameJ.enc {a b : EZ} (h : SameJ a b) : encJ a = encJ b := by
  unfold encJ
  rw [h.tick, h.now, h.t, h.D, h.X]
/-- What Decode reads of bytes: an entry, and what is left. -/
def takeJ (n m : Nat) (bs : List Int) : EZ × StJ :=
  if (takeI 0 1 (some bs)).1 = 1 then (zJ true (takeI 0 1099511627776 (takeI 0 1 (some bs)).2).1 0 [] [], (takeI 0 1099511627776 (takeI 0 1 (some bs)).2).2)
  else
    (zJ false 0 (takeI 0 1099511627776 (takeI 0 1 (some bs)).2).1 (takeD n (takeI 0 1099511627776 (takeI 0 1 (some bs)).2).2).1 (takeX m (takeD n (takeI 0 1099511627776 (takeI 0 1 (some bs)).2).2).2).1,
      (takeX m (takeD n (takeI 0 1099511627776 (takeI 0 1 (some bs)).2).2).2).2)
theorem right_event {L M : List ByteArray} {z : EZ} (h : rightJ L M z) (ht : z.tick = false) : z.now = 0 ∧ EvOk L M z.ev.D z.ev.X z.ev.t := by
  unfold rightJ at h
  rw [if_neg (by rw [ht]; simp)] at h
  exact h
theorem right_tick {L M : List ByteArray} {z : EZ} (h : rightJ L M z) (ht : z.tick = true) : z.ev.t = 0 ∧ z.ev.D = [] ∧ z.ev.X = [] ∧ 0 ≤ z.now ∧ z.now ≤ 1099511627776 := by
  unfold rightJ at h
  rw [if_pos ht] at h
  exact h
theorem takeJ_enc {L M : List ByteArray} {z : EZ} (h : rightJ L M z) : SameJ (takeJ L.length M.length (encJ z)).1 z ∧ (takeJ L.length M.length (encJ z)).2 = some [] := by
  obtain ⟨bs, hbs⟩ : ∃ bs, bs = encJ z := ⟨_, rfl⟩
  rw [← hbs]
  cases ht : z.tick with
  | true =>
    obtain ⟨h1, h2, h3, h4, h5⟩ := right_tick h ht
    have e0 : bs = encV 1 ++ (encV z.now ++ []) := by rw [hbs, encJ, if_pos ht]; simp
    have k1 : takeI 0 1 (some bs) = (1, some (encV z.now ++ [])) := by
      rw [e0]; unfold takeI; simp only []; rw [readI_enc (by omega) (by omega) (by omega) (by omega)]
    have k2 : takeI 0 1099511627776 (some (encV z.now ++ [])) = (z.now, some []) := by
      unfold takeI; simp only []; rw [readI_enc (by omega) (by omega) h4 h5]
    unfold takeJ
    rw [k1]
    simp only []
    rw [if_pos trivial, k2]
    exact ⟨⟨ht.symm, rfl, h1.symm, h2.symm, h3.symm⟩, rfl⟩
  | false =>
    obtain ⟨h1, h2⟩ := right_event h ht
    have h3 := h2.t0
    have h4 := h2.t1
    have e0 : bs = encV 0 ++ (encV z.ev.t ++ ((z.ev.D.map encT).flatten ++ ((z.ev.X.map encV).flatten ++ []))) := by rw [hbs, encJ, if_neg (by rw [ht]; simp)]; simp
    have k1 : takeI 0 1 (some bs) = (0, some (encV z.ev.t ++ ((z.ev.D.map encT).flatten ++ ((z.ev.X.map encV).flatten ++ [])))) := by
      rw [e0]; unfold takeI; simp only []; rw [readI_enc (by omega) (by omega) (by omega) (by omega)]
    have k2 : takeI 0 1099511627776 (some (encV z.ev.t ++ ((z.ev.D.map encT).flatten ++ ((z.ev.X.map encV).flatten ++ [])))) = (z.ev.t, some ((z.ev.D.map encT).flatten ++ ((z.ev.X.map encV).flatten ++ []))) := by
      unfold takeI; simp only []; rw [readI_enc (by omega) (by omega) h3 h4]
    have k3 := takeD_enc z.ev.D ((z.ev.X.map encV).flatten ++ []) (fun s hs => (h2.dv s hs).1) z.ev.D.length (Nat.le_refl _)
    rw [List.take_length, List.drop_length] at k3
    have k4 := takeX_enc z.ev.X [] (fun v hv => by have h := h2.xv v hv; unfold greatZ at h; omega) z.ev.X.length (Nat.le_refl _)
    rw [List.take_length, List.drop_length] at k4
    rw [h2.dl] at k3
    rw [h2.xl] at k4
    unfold takeJ
    rw [k1]
    simp only []
    rw [if_neg (by omega), k2]
    simp only []
    rw [k3]
    simp only [List.map_nil, List.flatten_nil, List.nil_append]
    rw [k4]
    exact ⟨⟨ht.symm, h1.symm, rfl, rfl, rfl⟩, by simp⟩
theorem encJ_inj {L M : List ByteArray} {a b : EZ} (h : rightJ L M a) (k : rightJ L M b) (he : encJ a = encJ b) : SameJ a b := by
  have h1 := (takeJ_enc h).1
  have h2 := (takeJ_enc k).1
  rw [he] at h1
  exact h1.symm.trans h2
end Go.Proofs.YthogafecplhckaaDoor
namespace Go.Proofs.YthogafecplhckaaDoor
open Go.RowKit Go.Lib
set_option linter.unusedSimpArgs false
set_option linter.unusedVariables false
def rdI (lo hi : Int) (bs : List Int) : Int × Int × List Int := match readI lo hi bs with
  | some (v, r) => (v, 0, r)
  | none => (0, 11, bs)
def rdT (bs : List Int) : ByteArray × Int × List Int := match readT 24 bs with
  | some (v, r) => (v, 0, r)
  | none => (ByteArray.empty, 11, bs)
theorem rdI_cases {lo hi : Int} {bs : List Int} {u er v : Int} {r : List Int} {s' : StJ} (h : (u, er, r) = rdI lo hi bs) (k : (v, s') = takeI lo hi (some bs)) : (er = 0 ∧ u = v ∧ s' = some r) ∨ (er = 11 ∧ u = v ∧ s' = none ∧ r = bs) := by
  unfold rdI at h
  unfold takeI at k
  simp only [] at k
  split at h
  · rename_i a b hr
    rw [hr] at k
    simp only [Prod.mk.injEq] at h k
    exact .inl ⟨h.2.1, by rw [h.1, k.1], by rw [k.2, h.2.2]⟩
  · rename_i hr
    rw [hr] at k
    simp only [Prod.mk.injEq] at h k
    exact .inr ⟨h.2.1, by rw [h.1, k.1], k.2, h.2.2⟩
theorem rdT_cases {bs : List Int} {u v : ByteArray} {er : Int} {r : List Int} {s' : StJ} (h : (u, er, r) = rdT bs) (k : (v, s') = takeT (some bs)) : (er = 0 ∧ u = v ∧ s' = some r) ∨ (er = 11 ∧ u = v ∧ s' = none ∧ r = bs) := by
  unfold rdT at h
  unfold takeT at k
  simp only [] at k
  split at h
  · rename_i a b hr
    rw [hr] at k
    simp only [Prod.mk.injEq] at h k
    exact .inl ⟨h.2.1, by rw [h.1, k.1], by rw [k.2, h.2.2]⟩
  · rename_i hr
    rw [hr] at k
    simp only [Prod.mk.injEq] at h k
    exact .inr ⟨h.2.1, by rw [h.1, k.1], k.2, h.2.2⟩
theorem bytes_drop' {bs : List Int} (h : bytes bs) (k : Nat) : bytes (bs.drop k) := fun x hx => h x (List.mem_of_mem_drop hx)
theorem rdI_bytes {lo hi : Int} {bs : List Int} {u er : Int} {r : List Int} (hb : bytes bs) (h : (u, er, r) = rdI lo hi bs) : bytes r := by
  unfold rdI readI at h
  split at h
  · rename_i a b hr
    split at hr
    · simp only [Option.some.injEq, Prod.mk.injEq] at h hr
      rw [h.2.2, ← hr.2]; exact bytes_drop' hb _
    · cases hr
  · simp only [Prod.mk.injEq] at h
    rw [h.2.2]; exact hb
theorem rdT_bytes {bs : List Int} {u : ByteArray} {er : Int} {r : List Int} (hb : bytes bs) (h : (u, er, r) = rdT bs) : bytes r := by
  unfold rdT readT at h
  split at h
  · rename_i a b hr
    split at hr
    · simp only [Option.some.injEq, Prod.mk.injEq] at h hr
      rw [h.2.2, ← hr.2]; exact bytes_drop' hb _
    · cases hr
  · simp only [Prod.mk.injEq] at h
    rw [h.2.2]; exact hb
theorem rintq_all (rb : Nat) (bs : List Int) (lo hi : Int) (w : World) (hR : Rq w rb bs) (hb : bytes bs) (v er : Int) (r : List Int) (h : (v, er, r) = rdI lo hi bs) :
    Calls Tryd.prog 45 #[.pointer (some ⟨rb, 0, none⟩), .int .i64 lo, .int .i64 hi] w (ReadPq w rb (.int .i64 v) er r) := by
  obtain ⟨x, l, hp⟩ : ∃ x l, numP bs = (x, l) := ⟨_, _, rfl⟩
  unfold rdI readI at h
  rw [hp] at h
  by_cases hc : 0 < l ∧ lo ≤ x ∧ x ≤ hi
  · rw [if_pos hc] at h
    simp only [Prod.mk.injEq] at h
    obtain ⟨rfl, rfl, rfl⟩ := h
    exact rintq_good rb bs lo hi w hR hb _ _ hp hc.1 hc.2.1 hc.2.2
  · rw [if_neg hc] at h
    simp only [Prod.mk.injEq] at h
    obtain ⟨rfl, rfl, rfl⟩ := h
    exact rintq_bad rb _ lo hi w hR hb _ _ hp (by omega)
theorem rtextq_all (rb : Nat) (bs : List Int) (w : World) (hR : Rq w rb bs) (hb : bytes bs) (v : ByteArray) (er : Int) (r : List Int) (h : (v, er, r) = rdT bs) :
    Calls Tryd.prog 75 #[.pointer (some ⟨rb, 0, none⟩), .int .i64 24] w (ReadPq w rb (.string v) er r) := by
  obtain ⟨x, l, hp⟩ : ∃ x l, numP bs = (x, l) := ⟨_, _, rfl⟩
  unfold rdT readT at h
  rw [hp] at h
  by_cases hc : 0 < l ∧ 0 ≤ x ∧ x ≤ 24 ∧ x ≤ (bs.length : Int) - l
  · rw [if_pos hc] at h
    simp only [Prod.mk.injEq] at h
    obtain ⟨rfl, rfl, rfl⟩ := h
    exact rtextq_good rb bs 24 w hR hb x.toNat l (by rw [hp]; congr 1; omega) hc.1 (by omega) (by omega)
  · rw [if_neg hc] at h
    simp only [Prod.mk.injEq] at h
    obtain ⟨rfl, rfl, rfl⟩ := h
    exact rtextq_bad rb _ 24 w hR hb _ _ hp (by omega)
structure CloI (g : Nat) (lo hi : Int) : Prop where
  fn : ∀ args w, (callFunc g args).run Tryd.prog w = .ok (.enter g args) w
  call : ∀ (W : World) (rb R : Nat) (bs : List Int) (v er : Int) (r : List Int), Rq W rb bs → bytes bs → W.cell? ⟨R, 0, none⟩ = some (.pointer (some ⟨rb, 0, none⟩)) → (v, er, r) = rdI lo hi bs →
    Calls Tryd.prog g #[.pointer (some ⟨R, 0, none⟩)] W (ReadPq W rb (.int .i64 v) er r)
structure CloT (g : Nat) : Prop where
  fn : ∀ args w, (callFunc g args).run Tryd.prog w = .ok (.enter g args) w
  call : ∀ (W : World) (rb R : Nat) (bs : List Int) (v : ByteArray) (er : Int) (r : List Int), Rq W rb bs → bytes bs → W.cell? ⟨R, 0, none⟩ = some (.pointer (some ⟨rb, 0, none⟩)) → (v, er, r) = rdT bs →
    Calls Tryd.prog g #[.pointer (some ⟨R, 0, none⟩)] W (ReadPq W rb (.string v) er r)
set_option maxRecDepth 100000 in
set_option maxHeartbeats 4000000 in
theorem clo44 : CloI 44 (0) 1 := by
  refine ⟨fun args w => rfl, ?_⟩
  intro W rb R bs v er r hR hb hc he
  have HQ := Lib.hid (rintq_all rb bs (0) 1 W hR hb v er r he)
  clear hR hb he
  go_enter Tryd.func44, Tryd.ntmps44
  go_wp2_with (go_at_call 45; refine HQ.out.mono ?_; rintro e w1 ⟨rfl, h1, h2⟩; have H1 := Lib.hid h1; have H2 := Lib.hid h2; clear h1 h2)
  go_ret2
  exact ⟨rfl, H1.out, H2.out⟩
set_option maxRecDepth 100000 in
set_option maxHeartbeats 4000000 in
theorem clo46 : CloI 46 (0) 1099511627776 := by
  refine ⟨fun args w => rfl, ?_⟩
  intro W rb R bs v er r hR hb hc he
  have HQ := Lib.hid (rintq_all rb bs (0) 1099511627776 W hR hb v er r he)
  clear hR hb he
  go_enter Tryd.func46, Tryd.ntmps46
  go_wp2_with (go_at_call 45; refine HQ.out.mono ?_; rintro e w1 ⟨rfl, h1, h2⟩; have H1 := Lib.hid h1; have H2 := Lib.hid h2; clear h1 h2)
  go_ret2
  exact ⟨rfl, H1.out, H2.out⟩
set_option maxRecDepth 100000 in
set_option maxHeartbeats 4000000 in
theorem clo72 : CloI 72 (0) 1099511627776 := by
  refine ⟨fun args w => rfl, ?_⟩
  intro W rb R bs v er r hR hb hc he
  have HQ := Lib.hid (rintq_all rb bs (0) 1099511627776 W hR hb v er r he)
  clear hR hb he
  go_enter Tryd.func72, Tryd.ntmps72
  go_wp2_with (go_at_call 45; refine HQ.out.mono ?_; rintro e w1 ⟨rfl, h1, h2⟩; have H1 := Lib.hid h1; have H2 := Lib.hid h2; clear h1 h2)
  go_ret2
  exact ⟨rfl, H1.out, H2.out⟩
set_option maxRecDepth 100000 in
set_option maxHeartbeats 4000000 in
theorem clo76 : CloI 76 (-4611686018427387904) 4611686018427387904 := by
  refine ⟨fun args w => rfl, ?_⟩
  intro W rb R bs v er r hR hb hc he
  have HQ := Lib.hid (rintq_all rb bs (-4611686018427387904) 4611686018427387904 W hR hb v er r he)
  clear hR hb he
  go_enter Tryd.func76, Tryd.ntmps76
  go_wp2_with (go_at_call 45; refine HQ.out.mono ?_; rintro e w1 ⟨rfl, h1, h2⟩; have H1 := Lib.hid h1; have H2 := Lib.hid h2; clear h1 h2)
  go_ret2
  exact ⟨rfl, H1.out, H2.out⟩
set_option maxRecDepth 100000 in
set_option maxHeartbeats 4000000 in
theorem clo74 : CloT 74 := by
  refine ⟨fun args w => rfl, ?_⟩
  intro W rb R bs v er r hR hb hc he
  have HQ := Lib.hid (rtextq_all rb bs W hR hb v er r he)
  clear hR hb he
  go_enter Tryd.func74, Tryd.ntmps74
  go_wp2_with (go_at_call 75; refine HQ.out.mono ?_; rintro e w1 ⟨rfl, h1, h2⟩; have H1 := Lib.hid h1; have H2 := Lib.hid h2; clear h1 h2)
  go_ret2
  exact ⟨rfl, H1.out, H2.out⟩

/-- What the readings keep: whether all is well, and the reader. -/
def StW (w : World) (wb rb : Nat) (s : StJ) : Prop := Blk w wb 4 #[.bool s.isSome] ∧ ∃ bs, Rq w rb bs ∧ bytes bs ∧ (s = none ∨ s = some bs)
theorem Rq.ne_blk {w : World} {rb g : Nat} {bs : List Int} {b : Bool} (h : Rq w rb bs) (k : Blk w g 4 #[.bool b]) : rb ≠ g := by
  obtain ⟨A, n, c, h1, _⟩ := h
  intro e
  rw [e, k.cell 0] at h1
  simp at h1
theorem Rq.set_blk {w : World} {rb g : Nat} {bs : List Int} {b : Bool} (h : Rq w rb bs) (k : Blk w g 4 #[.bool b]) (v : Value) : Rq (w.setCell ⟨g, 0, none⟩ v) rb bs := by
  have hg := h.ne_blk k
  obtain ⟨A, n, c, h1, h2, h3, h4, h5, h6⟩ := h
  refine ⟨A, n, c, ?_, h2, h3, h4, fun o => by rw [World.frozen?_setCell]; exact h5 o, ?_⟩
  · rw [World.cell?_setCell_other w _ _ _ (fun e => hg (by have := congrArg Addr.block e; simpa using this.symm))]; exact h1
  · rcases h6 with h6 | ⟨b', off, h7, h8, h9⟩
    · exact .inl h6
    · refine .inr ⟨b', off, h7, h8, fun j u hu => ?_⟩
      have h10 := h9 j u hu
      rw [World.cell?_setCell_other w _ _ _ (fun e => ?_)]
      · exact h10
      · have e1 : b' = g := by have := congrArg Addr.block e; simpa using this.symm
        have e2 : off + j = 0 := by have := congrArg Addr.off e; simpa using this.symm
        rw [e1, e2, k.cell 0] at h10
        rw [List.getElem?_map] at hu
        cases hx : bs[j]? with
        | none => rw [hx] at hu; cases hu
        | some x => rw [hx] at hu; simp at hu h10; rw [← h10] at hu; cases hu
def TakePI (w : World) (wb rb : Nat) (v : Int) (s : StJ) (e : Ending) (w' : World) : Prop := e = .returned (.int .i64 v) ∧ StW w' wb rb s ∧ Fr (fun i => i = rb ∨ i = wb) w w'
set_option maxRecDepth 100000 in
set_option maxHeartbeats 8000000 in
theorem take43 {g : Nat} {lo hi : Int} (wb rb R : Nat) (s : StJ) (w : World) (hC : CloI g lo hi) (h : StW w wb rb s) (hR : w.cell? ⟨R, 0, none⟩ = some (.pointer (some ⟨rb, 0, none⟩))) (v : Int) (s' : StJ) (he : (v, s') = takeI lo hi s) :
    Calls Tryd.prog 43 #[.pointer (some ⟨wb, 0, none⟩), .func (.func g) #[] #[.pointer (some ⟨R, 0, none⟩)]] w (TakePI w wb rb v s') := by
  have hlw := h.1.lt
  obtain ⟨hw, bs, hq, hby, hs⟩ := h
  have hne := Rq.ne_blk hq hw
  have c0 := hw.cell 0
  have f0 := hw.frozen 0
  simp at c0
  have eg := hC.fn
  cases s with
  | none =>
    obtain ⟨rfl, rfl⟩ : v = 0 ∧ s' = none := by unfold takeI at he; simpa using he
    have HP := Lib.hid (show StW w wb rb none from ⟨hw, bs, hq, hby, hs⟩)
    have c1 : w.cell? ⟨wb, 0, none⟩ = some (.bool false) := c0
    clear c0 hw hq hby hs he hne hlw
    go_enter Tryd.func43, Tryd.ntmps43
    go_wp2_with fail
    go_ret
    exact ⟨rfl, HP.out, Fr.refl _ _⟩
  | some cs =>
    obtain rfl : bs = cs := by
      rcases hs with h | h
      · cases h
      · injection h with h; exact h.symm
    have c1 : w.cell? ⟨wb, 0, none⟩ = some (.bool true) := c0
    obtain ⟨u, er, r, hu⟩ : ∃ u er r, (u, er, r) = rdI lo hi bs := ⟨_, _, _, rfl⟩
    have HQ := Lib.hid (hC.call w rb R bs u er r hq hby hR hu)
    have HU := Lib.hid hu
    have HE := Lib.hid he
    have HW := Lib.hid hw
    have HBY := Lib.hid hby
    clear c0 hw hq hby hs he hu hR hC
    go_enter Tryd.func43, Tryd.ntmps43
    go_upto_region 5 with (go_at_fn g; refine HQ.out.mono ?_; rintro e w1 ⟨rfl, h1, h2⟩; have H1 := Lib.hid h1; have H2 := Lib.hid h2; clear h1 h2)
    clear c1 f0
    have hk1 : Blk w1 wb 4 #[.bool true] := HW.out.grown H2.out (by intro e; injection e with e; exact hne e)
    have c1 := hk1.cell 0
    have f1 := hk1.frozen 0
    simp at c1
    have HK1 := Lib.hid hk1
    rcases rdI_cases (HU.out) HE.out with ⟨rfl, rfl, rfl⟩ | ⟨rfl, rfl, rfl, rfl⟩
    all_goals
      clear hk1
      go_wp2_with fail
      go_ret
      refine ⟨rfl, ⟨?_, _, H1.out.set_blk HK1.out _, ?_, ?_⟩, ?_⟩
      · first | simpa using HK1.out.set_ 0 (.bool true) | simpa using HK1.out.set_ 0 (.bool false)
      · first | exact HBY.out | exact rdI_bytes HBY.out HU.out
      · first | exact .inr rfl | exact .inl rfl
      · exact ((Fr.of_grown H2.out).mono (fun i _ h => .inl (by injection h with h; exact h.symm))).set_ (.inl (.inr rfl)) _
def TakePT (w : World) (wb rb : Nat) (v : ByteArray) (s : StJ) (e : Ending) (w' : World) : Prop := e = .returned (.string v) ∧ StW w' wb rb s ∧ Fr (fun i => i = rb ∨ i = wb) w w'
set_option maxRecDepth 100000 in
set_option maxHeartbeats 8000000 in
theorem take73 {g : Nat} (wb rb R : Nat) (s : StJ) (w : World) (hC : CloT g) (h : StW w wb rb s) (hR : w.cell? ⟨R, 0, none⟩ = some (.pointer (some ⟨rb, 0, none⟩))) (v : ByteArray) (s' : StJ) (he : (v, s') = takeT s) :
    Calls Tryd.prog 73 #[.pointer (some ⟨wb, 0, none⟩), .func (.func g) #[] #[.pointer (some ⟨R, 0, none⟩)]] w (TakePT w wb rb v s') := by
  have hlw := h.1.lt
  obtain ⟨hw, bs, hq, hby, hs⟩ := h
  have hne := Rq.ne_blk hq hw
  have c0 := hw.cell 0
  have f0 := hw.frozen 0
  simp at c0
  have eg := hC.fn
  cases s with
  | none =>
    obtain ⟨rfl, rfl⟩ : v = ByteArray.empty ∧ s' = none := by unfold takeT at he; simpa using he
    have HP := Lib.hid (show StW w wb rb none from ⟨hw, bs, hq, hby, hs⟩)
    have c1 : w.cell? ⟨wb, 0, none⟩ = some (.bool false) := c0
    clear c0 hw hq hby hs he hne hlw
    go_enter Tryd.func73, Tryd.ntmps73
    go_wp2_with fail
    go_ret
    exact ⟨rfl, HP.out, Fr.refl _ _⟩
  | some cs =>
    obtain rfl : bs = cs := by
      rcases hs with h | h
      · cases h
      · injection h with h; exact h.symm
    have c1 : w.cell? ⟨wb, 0, none⟩ = some (.bool true) := c0
    obtain ⟨u, er, r, hu⟩ : ∃ u er r, (u, er, r) = rdT bs := ⟨_, _, _, rfl⟩
    have HQ := Lib.hid (hC.call w rb R bs u er r hq hby hR hu)
    have HU := Lib.hid hu
    have HE := Lib.hid he
    have HW := Lib.hid hw
    have HBY := Lib.hid hby
    clear c0 hw hq hby hs he hu hR hC
    go_enter Tryd.func73, Tryd.ntmps73
    go_upto_region 5 with (go_at_fn g; refine HQ.out.mono ?_; rintro e w1 ⟨rfl, h1, h2⟩; have H1 := Lib.hid h1; have H2 := Lib.hid h2; clear h1 h2)
    clear c1 f0
    have hk1 : Blk w1 wb 4 #[.bool true] := HW.out.grown H2.out (by intro e; injection e with e; exact hne e)
    have c1 := hk1.cell 0
    have f1 := hk1.frozen 0
    simp at c1
    have HK1 := Lib.hid hk1
    rcases rdT_cases (HU.out) HE.out with ⟨rfl, rfl, rfl⟩ | ⟨rfl, rfl, rfl, rfl⟩
    all_goals
      clear hk1
      go_wp2_with fail
      go_ret
      refine ⟨rfl, ⟨?_, _, H1.out.set_blk HK1.out _, ?_, ?_⟩, ?_⟩
      · first | simpa using HK1.out.set_ 0 (.bool true) | simpa using HK1.out.set_ 0 (.bool false)
      · first | exact HBY.out | exact rdT_bytes HBY.out HU.out
      · first | exact .inr rfl | exact .inl rfl
      · exact ((Fr.of_grown H2.out).mono (fun i _ h => .inl (by injection h with h; exact h.symm))).set_ (.inl (.inr rfl)) _
end Go.Proofs.YthogafecplhckaaDoor
