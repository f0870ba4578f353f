/- What Decode reads: plain facts. -/
import Derived.Test.YthogafecplhckaaDoorNB
import Derived.Test.YthogafecplhckaaDoorTU
namespace Go.Proofs.YthogafecplhckaaDoor
open Go.RowKit Go.Lib
set_option linter.unusedSimpArgs false
set_option linter.unusedVariables false
/-- A number within limits, and what is left. -/
def readI (lo hi : Int) (bs : List Int) : Option (Int × List Int) := if 0 < (numP bs).2 ∧ lo ≤ (numP bs).1 ∧ (numP bs).1 ≤ hi then some ((numP bs).1, bs.drop (numP bs).2) else none
/-- A text, and what is left. -/
def readT (hi : Int) (bs : List Int) : Option (ByteArray × List Int) :=
  if 0 < (numP bs).2 ∧ 0 ≤ (numP bs).1 ∧ (numP bs).1 ≤ hi ∧ (numP bs).1 ≤ (bs.length : Int) - (numP bs).2 then some (strOfNums ((bs.drop (numP bs).2).take (numP bs).1.toNat), bs.drop ((numP bs).2 + (numP bs).1.toNat)) else none
theorem readI_enc {lo hi v : Int} (h1 : -9223372036854775808 ≤ v) (h2 : v ≤ 9223372036854775807) (l1 : lo ≤ v) (l2 : v ≤ hi) (rest : List Int) : readI lo hi (encV v ++ rest) = some (v, rest) := by
  have p1 : numP (encV v ++ rest) = (v, encG v) := numP_enc h1 h2 _
  have q1 := encG_pos v
  unfold readI
  rw [p1]
  rw [if_pos ⟨q1, l1, l2⟩]
  simp only []
  rw [drop_enc]
theorem readT_enc {hi : Int} {s : ByteArray} (hs : s.size ≤ 1000000) (h : (s.size : Int) ≤ hi) (rest : List Int) : readT hi (encT s ++ rest) = some (s, rest) := by
  have h0 : encT s ++ rest = encV (s.size : Int) ++ (sB s ++ rest) := by unfold encT; simp
  rw [h0]
  have p1 : numP (encV (s.size : Int) ++ (sB s ++ rest)) = ((s.size : Int), encG (s.size : Int)) := numP_enc (by omega) (by omega) _
  have q1 := encG_pos (s.size : Int)
  unfold readT
  rw [p1]
  rw [if_pos ⟨q1, by omega, h, by rw [List.length_append, List.length_append, encG_len, sB_length]; omega⟩]
  simp only []
  have e1 : ((s.size : Nat) : Int).toNat = s.size := by omega
  rw [e1, drop_enc, ← List.drop_drop, drop_enc]
  rw [show (sB s ++ rest).take s.size = sB s by rw [← sB_length, List.take_left], show (sB s ++ rest).drop s.size = rest by rw [← sB_length, List.drop_left], strOf_sB]
/-- What is left, or nothing: all is wrong. -/
abbrev StJ := Option (List Int)
def takeI (lo hi : Int) (s : StJ) : Int × StJ := match s with
  | none => (0, none)
  | some bs => match readI lo hi bs with
    | none => (0, none)
    | some (v, r) => (v, some r)
def takeT (s : StJ) : ByteArray × StJ := match s with
  | none => (ByteArray.empty, none)
  | some bs => match readT 24 bs with
    | none => (ByteArray.empty, none)
    | some (v, r) => (v, some r)
def takeD : Nat → StJ → List ByteArray × StJ
  | 0, s => ([], s)
  | k + 1, s => ((takeD k s).1 ++ [(takeT (takeD k s).2).1], (takeT (takeD k s).2).2)
def takeX : Nat → StJ → List Int × StJ
  | 0, s => ([], s)
  | k + 1, s => ((takeX k s).1 ++ [(takeI (-4611686018427387904) 4611686018427387904 (takeX k s).2).1], (takeI (-4611686018427387904) 4611686018427387904 (takeX k s).2).2)
theorem takeD_len (k : Nat) (s : StJ) : (takeD k s).1.length = k := by
  induction k with
  | zero => rfl
  | succ k ih => rw [takeD]; simp [ih]
theorem takeX_len (k : Nat) (s : StJ) : (takeX k s).1.length = k := by
  induction k with
  | zero => rfl
  | succ k ih => rw [takeX]; simp [ih]
theorem strOf_size (l : List Int) : (strOfNums l).size = l.length := by simp [strOfNums, ByteArray.size]
theorem readT_size {hi : Int} {bs : List Int} {s : ByteArray} {r : List Int} (h : readT hi bs = some (s, r)) : (s.size : Int) ≤ hi := by
  unfold readT at h
  split at h
  · rename_i hc
    simp only [Option.some.injEq, Prod.mk.injEq] at h
    rw [← h.1, strOf_size, List.length_take]
    omega
  · cases h
theorem takeT_size (s : StJ) : (takeT s).1.size ≤ 24 := by
  unfold takeT
  split
  · decide
  · split
    · decide
    · rename_i h
      have := readT_size h
      simp only []
      omega
theorem takeD_size (k : Nat) (s : StJ) : ∀ x ∈ (takeD k s).1, x.size ≤ 24 := by
  induction k with
  | zero => intro x hx; cases hx
  | succ k ih =>
    intro x hx
    rw [takeD] at hx
    rcases List.mem_append.1 hx with h | h
    · exact ih x h
    · rw [List.mem_singleton.1 h]; exact takeT_size _
theorem takeD_enc (D : List ByteArray) (rest : List Int) (hD : ∀ s ∈ D, s.size ≤ 24) : ∀ k, k ≤ D.length → takeD k (some ((D.map encT).flatten ++ rest)) = (D.take k, some (((D.drop k).map encT).flatten ++ rest)) := by
  intro k
  induction k with
  | zero => intro _; simp [takeD]
  | succ k ih =>
    intro hk
    rw [takeD, ih (by omega)]
    have hd : D.drop k = D[k] :: D.drop (k + 1) := List.drop_eq_getElem_cons (by omega)
    have h1 := hD D[k] (List.getElem_mem _)
    have ht : takeT (some (((D.drop k).map encT).flatten ++ rest)) = (D[k], some (((D.drop (k + 1)).map encT).flatten ++ rest)) := by
      rw [hd, List.map_cons, List.flatten_cons, List.append_assoc]
      unfold takeT
      simp only []
      rw [readT_enc (by omega) (by omega)]
    simp only []
    rw [ht, take_snoc D k (by omega)]
theorem takeX_enc (X : List Int) (rest : List Int) (hX : ∀ v ∈ X, -4611686018427387904 ≤ v ∧ v ≤ 4611686018427387904) : ∀ k, k ≤ X.length → takeX k (some ((X.map encV).flatten ++ rest)) = (X.take k, some (((X.drop k).map encV).flatten ++ rest)) := by
  intro k
  induction k with
  | zero => intro _; simp [takeX]
  | succ k ih =>
    intro hk
    rw [takeX, ih (by omega)]
    have hd : X.drop k = X[k] :: X.drop (k + 1) := List.drop_eq_getElem_cons (by omega)
    have h1 := hX X[k] (List.getElem_mem _)
    have ht : takeI (-4611686018427387904) 4611686018427387904 (some (((X.drop k).map encV).flatten ++ rest)) = (X[k], some (((X.drop (k + 1)).map encV).flatten ++ rest)) := by
      rw [hd, List.map_cons, List.flatten_cons, List.append_assoc]
      unfold takeI
      simp only []
      rw [readI_enc (by omega) (by omega) h1.1 h1.2]
    simp only []
    rw [ht, take_snoc X k (by omega)]
/-- An entry without where it lies. -/
def zJ (tick : Bool) (now t : Int) (D : List ByteArray) (X : List Int) : EZ := ⟨tick, now, ⟨none, 0, 0, none, 0, 0, t, D, X⟩⟩
/-- Two entries are one. -/
structure SameJ (a b : EZ) : Prop where
  tick : a.tick = b.tick
  now : a.now = b.now
  t : a.ev.t = b.ev.t
  D : a.ev.D = b.ev.D
  X : a.ev.X = b.ev.X
theorem SameJ.refl (a : EZ) : SameJ a a := ⟨rfl, rfl, rfl, rfl, rfl⟩
theorem SameJ.symm {a b : EZ} (h : SameJ a b) : SameJ b a := ⟨h.tick.symm, h.now.symm, h.t.symm, h.D.symm, h.X.symm⟩
theorem SameJ.trans {a b c : EZ} (h : SameJ a b) (k : SameJ b c) : SameJ a c := ⟨h.tick.trans k.tick, h.now.trans k.now, h.t.trans k.t, h.D.trans k.D, h.X.trans k.X⟩
theorem SameJ.right {L M : List ByteArray} {a b : EZ} (h : SameJ a b) (k : rightJ L M a) : rightJ L M b := by
  unfold rightJ at k ⊢
  rw [h.tick, h.now, h.t, h.D, h.X] at k
  exact k
theorem SameJ.enc {a b : EZ} (h : SameJ a b) : encJ a = encJ b := by
  unfold encJ
  rw [h.tick, h.now, h.t, h.D, h.X]
/-- What Decode reads of bytes: an entry, and what is left. -/
def takeJ (n m : Nat) (bs : List Int) : EZ × StJ :=
  if (takeI 0 1 (some bs)).1 = 1 then (zJ true (takeI 0 1099511627776 (takeI 0 1 (some bs)).2).1 0 [] [], (takeI 0 1099511627776 (takeI 0 1 (some bs)).2).2)
  else
    (zJ false 0 (takeI 0 1099511627776 (takeI 0 1 (some bs)).2).1 (takeD n (takeI 0 1099511627776 (takeI 0 1 (some bs)).2).2).1 (takeX m (takeD n (takeI 0 1099511627776 (takeI 0 1 (some bs)).2).2).2).1,
      (takeX m (takeD n (takeI 0 1099511627776 (takeI 0 1 (some bs)).2).2).2).2)
theorem right_event {L M : List ByteArray} {z : EZ} (h : rightJ L M z) (ht : z.tick = false) : z.now = 0 ∧ EvOk L M z.ev.D z.ev.X z.ev.t := by
  unfold rightJ at h
  rw [if_neg (by rw [ht]; simp)] at h
  exact h
theorem right_tick {L M : List ByteArray} {z : EZ} (h : rightJ L M z) (ht : z.tick = true) : z.ev.t = 0 ∧ z.ev.D = [] ∧ z.ev.X = [] ∧ 0 ≤ z.now ∧ z.now ≤ 1099511627776 := by
  unfold rightJ at h
  rw [if_pos ht] at h
  exact h
theorem takeJ_enc {L M : List ByteArray} {z : EZ} (h : rightJ L M z) : SameJ (takeJ L.length M.length (encJ z)).1 z ∧ (takeJ L.length M.length (encJ z)).2 = some [] := by
  obtain ⟨bs, hbs⟩ : ∃ bs, bs = encJ z := ⟨_, rfl⟩
  rw [← hbs]
  cases ht : z.tick with
  | true =>
    obtain ⟨h1, h2, h3, h4, h5⟩ := right_tick h ht
    have e0 : bs = encV 1 ++ (encV z.now ++ []) := by rw [hbs, encJ, if_pos ht]; simp
    have k1 : takeI 0 1 (some bs) = (1, some (encV z.now ++ [])) := by
      rw [e0]; unfold takeI; simp only []; rw [readI_enc (by omega) (by omega) (by omega) (by omega)]
    have k2 : takeI 0 1099511627776 (some (encV z.now ++ [])) = (z.now, some []) := by
      unfold takeI; simp only []; rw [readI_enc (by omega) (by omega) h4 h5]
    unfold takeJ
    rw [k1]
    simp only []
    rw [if_pos trivial, k2]
    exact ⟨⟨ht.symm, rfl, h1.symm, h2.symm, h3.symm⟩, rfl⟩
  | false =>
    obtain ⟨h1, h2⟩ := right_event h ht
    have h3 := h2.t0
    have h4 := h2.t1
    have e0 : bs = encV 0 ++ (encV z.ev.t ++ ((z.ev.D.map encT).flatten ++ ((z.ev.X.map encV).flatten ++ []))) := by rw [hbs, encJ, if_neg (by rw [ht]; simp)]; simp
    have k1 : takeI 0 1 (some bs) = (0, some (encV z.ev.t ++ ((z.ev.D.map encT).flatten ++ ((z.ev.X.map encV).flatten ++ [])))) := by
      rw [e0]; unfold takeI; simp only []; rw [readI_enc (by omega) (by omega) (by omega) (by omega)]
    have k2 : takeI 0 1099511627776 (some (encV z.ev.t ++ ((z.ev.D.map encT).flatten ++ ((z.ev.X.map encV).flatten ++ [])))) = (z.ev.t, some ((z.ev.D.map encT).flatten ++ ((z.ev.X.map encV).flatten ++ []))) := by
      unfold takeI; simp only []; rw [readI_enc (by omega) (by omega) h3 h4]
    have k3 := takeD_enc z.ev.D ((z.ev.X.map encV).flatten ++ []) (fun s hs => (h2.dv s hs).1) z.ev.D.length (Nat.le_refl _)
    rw [List.take_length, List.drop_length] at k3
    have k4 := takeX_enc z.ev.X [] (fun v hv => by have h := h2.xv v hv; unfold greatZ at h; omega) z.ev.X.length (Nat.le_refl _)
    rw [List.take_length, List.drop_length] at k4
    rw [h2.dl] at k3
    rw [h2.xl] at k4
    unfold takeJ
    rw [k1]
    simp only []
    rw [if_neg (by omega), k2]
    simp only []
    rw [k3]
    simp only [List.map_nil, List.flatten_nil, List.nil_append]
    rw [k4]
    exact ⟨⟨ht.symm, h1.symm, rfl, rfl, rfl⟩, by simp⟩
theorem encJ_inj {L M : List ByteArray} {a b : EZ} (h : rightJ L M a) (k : rightJ L M b) (he : encJ a = encJ b) : SameJ a b := by
  have h1 := (takeJ_enc h).1
  have h2 := (takeJ_enc k).1
  rw [he] at h1
  exact h1.symm.trans h2
end Go.Proofs.YthogafecplhckaaDoor
