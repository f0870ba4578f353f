/- Events that a budget takes are never too much: the mathematics. -/
import Derived.Test.YtmmeekmiildliaaGreatDoorJE
import Derived.Test.YtmmeekmiildliaaGreatDoorIP
import Derived.Test.YtmmeekmiildliaaGreatDoorIN
namespace Go.Proofs.YtmmeekmiildliaaGreatDoor
open Go.RowKit
set_option linter.unusedSimpArgs false
set_option linter.unusedVariables false
/-- The size of number j of an event. -/
def szAt (j : Nat) (z : EV) : Int := szI (z.X.getD j 0)
/-- What numbers j of events come to. -/
def totJ (E : List EV) (j : Nat) : Int := (E.map (szAt j)).sum
theorem szI_ge (x : Int) : 0 ≤ szI x := by unfold szI; split <;> omega
theorem totJ_nil (j : Nat) : totJ [] j = 0 := rfl
theorem totJ_app (A B : List EV) (j : Nat) : totJ (A ++ B) j = totJ A j + totJ B j := by simp [totJ, List.sum_append]
theorem totJ_one (z : EV) (j : Nat) : totJ [z] j = szI (z.X.getD j 0) := by simp [totJ, szAt]
theorem totJ_ge (A : List EV) (j : Nat) : 0 ≤ totJ A j := by
  induction A with
  | nil => exact Int.le_refl _
  | cons z A ih =>
    have h := totJ_app [z] A j
    rw [totJ_one] at h
    have := szI_ge (z.X.getD j 0)
    show 0 ≤ totJ ([z] ++ A) j
    omega
theorem totJ_perm {A B : List EV} (h : A.Perm B) (j : Nat) : totJ A j = totJ B j := by
  induction h with
  | nil => rfl
  | cons x _ ih =>
    rename_i l1 l2 _
    have h1 := totJ_app [x] l1 j
    have h2 := totJ_app [x] l2 j
    show totJ ([x] ++ l1) j = totJ ([x] ++ l2) j
    omega
  | swap x y l =>
    have h1 := totJ_app [y] ([x] ++ l) j
    have h2 := totJ_app [x] l j
    have h3 := totJ_app [x] ([y] ++ l) j
    have h4 := totJ_app [y] l j
    show totJ ([y] ++ ([x] ++ l)) j = totJ ([x] ++ ([y] ++ l)) j
    omega
  | trans _ _ h1 h2 => exact h1.trans h2
/-- A row within bounds. -/
structure Bd (N : Int) (T : Nat → Int) (a : RV) : Prop where
  lo : 0 ≤ a.count
  hi : a.count ≤ N
  ag : ∀ (j : Nat) (h : j < a.aggs.length), -(T j) ≤ a.aggs[j].1 ∧ a.aggs[j].1 ≤ T j
theorem Bd.mono {N N' : Int} {T T' : Nat → Int} {a : RV} (h : Bd N T a) (hN : N ≤ N') (hT : ∀ j, T j ≤ T' j) : Bd N' T' a :=
  ⟨h.lo, by have := h.hi; omega, fun j hj => by have := h.ag j hj; have := hT j; omega⟩
theorem Bd.plus {N N' : Int} {T T' : Nat → Int} {a b : RV} (h : Bd N T a) (h' : Bd N' T' b) (hl : a.aggs.length = b.aggs.length) : Bd (N + N') (fun j => T j + T' j) (plusV a b) := by
  refine ⟨?_, ?_, fun j hj => ?_⟩
  · show 0 ≤ a.count + b.count
    have := h.lo; have := h'.lo; omega
  · show a.count + b.count ≤ _
    have := h.hi; have := h'.hi; omega
  · have hj1 : j < a.aggs.length := by have : j < (List.zipWith plusA a.aggs b.aggs).length := hj; rw [List.length_zipWith] at this; omega
    have hj2 : j < (List.zipWith plusA a.aggs b.aggs).length := hj
    have e : (plusV a b).aggs[j] = plusA a.aggs[j] b.aggs[j] := (List.getElem_zipWith (h := hj2))
    have h1 := h.ag j hj1
    have h2 := h'.ag j (by omega)
    have key : -(T j + T' j) ≤ (plusA a.aggs[j] b.aggs[j]).1 ∧ (plusA a.aggs[j] b.aggs[j]).1 ≤ T j + T' j := by
      show -(T j + T' j) ≤ a.aggs[j].1 + b.aggs[j].1 ∧ a.aggs[j].1 + b.aggs[j].1 ≤ T j + T' j
      omega
    have e2 := congrArg Prod.fst e
    exact ⟨by show _ ≤ ((plusV a b).aggs[j]'hj).1; exact Int.le_trans key.1 (Int.le_of_eq e2.symm), by show ((plusV a b).aggs[j]'hj).1 ≤ _; exact Int.le_trans (Int.le_of_eq e2) key.2⟩
theorem joinG_fit : ∀ X Y : List Ag, X.length = Y.length → (∀ g ∈ X, okA g) → (∀ g ∈ Y, okA g) → (∀ (j : Nat) (h : j < X.length) (h' : j < Y.length), fit1 (X[j].1 + Y[j].1) = true) → (joinG X Y).2 = 0 := by
  intro X
  induction X with
  | nil => intro Y _ _ _ _; cases Y <;> rfl
  | cons a X ih =>
    intro Y hl hX hY hf
    cases Y with
    | nil => simp at hl
    | cons b Y =>
      have h1 : (toA3 a).right = true := hX a List.mem_cons_self
      have h2 : (toA3 b).right = true := hY b List.mem_cons_self
      have h3 : fit1 ((toA3 a).s + (toA3 b).s) = true := hf 0 (by simp) (by simp)
      rw [joinG, joinA_ok h1 h2 h3]
      simp only [if_true]
      rw [if_pos (ih Y (by simpa using hl) (fun g hg => hX g (List.mem_cons_of_mem _ hg)) (fun g hg => hY g (List.mem_cons_of_mem _ hg)) (fun j h h' => by
        have := hf (j + 1) (by simpa using h) (by simpa using h')
        simpa using this))]
theorem join_fit {q : Nat} {N N' : Int} {T T' : Nat → Int} {a b : RV} (ha : OkR q a) (hb : OkR q b) (hk : cmpV a b = 0) (h : Bd N T a) (h' : Bd N' T' b) (hN : N + N' ≤ 1048576) (hT : ∀ j, j < q → T j + T' j ≤ 4611686018427387904) : (joinR a b).2 = 0 := by
  have hl : a.aggs.length = b.aggs.length := by rw [ha.len, hb.len]
  unfold joinR
  rw [if_pos ⟨hk, hl⟩, if_neg (by have := h.hi; have := h'.hi; omega)]
  rw [if_pos]
  refine joinG_fit _ _ hl ha.aggs hb.aggs fun j hj hj' => ?_
  have h1 := h.ag j hj
  have h2 := h'.ag j hj'
  have h3 := hT j (by rw [← ha.len]; exact hj)
  exact fit1_iff.2 (by omega)
theorem insK_fit {q : Nat} {N N' : Int} {T T' : Nat → Int} {V : List RV} {x : RV} (hs : Strict V) (hO : ∀ a ∈ V, OkR q a) (hx : OkR q x) (hB : ∀ a ∈ V, Bd N T a) (hBx : Bd N' T' x) (hN : N + N' ≤ 1048576) (hT : ∀ j, j < q → T j + T' j ≤ 4611686018427387904)
    (h0 : 0 ≤ N ∧ 0 ≤ N') (h1 : ∀ j, 0 ≤ T j ∧ 0 ≤ T' j) : (insK V x).2 = 0 ∧ ∀ a ∈ (insK V x).1, Bd (N + N') (fun j => T j + T' j) a := by
  have hz : (insK V x).2 = 0 := by
    unfold insK
    split
    · rfl
    · rename_i r R hD
      split
      · rename_i hk
        have hr : r ∈ V := (List.dropWhile_sublist (below x)).subset (by rw [hD]; exact List.mem_cons_self)
        rw [if_pos (join_fit (hO r hr) hx hk (hB r hr) hBx hN hT)]
      · rfl
  refine ⟨hz, ?_⟩
  have hm : ∀ a ∈ V, Bd (N + N') (fun j => T j + T' j) a := fun a ha => (hB a ha).mono (by omega) (fun j => by have := (h1 j).2; omega)
  have hmx : Bd (N + N') (fun j => T j + T' j) x := hBx.mono (by omega) (fun j => by have := (h1 j).1; omega)
  rcases insK_plus hz with hp | ⟨A, a, B, rfl, hE, _⟩
  · intro a ha
    rcases List.mem_append.1 (hp.mem_iff.1 ha) with h | h
    · exact hm a h
    · rw [List.mem_singleton.1 h]; exact hmx
  · rw [hE]
    intro b hb
    rcases List.mem_append.1 hb with h | h
    · exact hm b (by simp [h])
    · rcases List.mem_cons.1 h with rfl | h
      · exact (hB a (by simp)).plus hBx (by rw [(hO a (by simp)).len, hx.len])
      · exact hm b (by simp [h])
/-- The row of an event in an index. -/
def rowV (g : Int) (z : EV) : RV := rowX z.t g z.D z.X
theorem rowV_bd {L M : List ByteArray} {g : Int} {z : EV} (h : EvOk L M z.D z.X z.t) : Bd 1 (totJ [z]) (rowV g z) := by
  refine ⟨by show (0 : Int) ≤ 1; decide, Int.le_refl _, fun j hj => ?_⟩
  have hj' : j < z.X.length := by have : j < (onesG z.X).length := hj; rwa [onesG_len] at this
  rw [totJ_one]
  have hn := h.xv z.X[j] (List.getElem_mem _)
  have hf : fit1 z.X[j] = true := by unfold greatZ at hn; exact fit1_iff.2 (by omega)
  have e : (rowV g z).aggs[j] = (z.X[j], z.X[j], z.X[j]) := by
    show (onesG z.X)[j]'(by rw [onesG_len]; exact hj') = _
    unfold onesG
    rw [List.getElem_map]
    unfold oneA
    rw [if_pos hf]; rfl
  rw [e]
  have e2 : z.X.getD j 0 = z.X[j] := by simp [List.getD, hj']
  rw [e2]
  unfold szI
  show -(_) ≤ z.X[j] ∧ z.X[j] ≤ _
  split <;> omega
/-- An index that holds such events. -/
structure Held (q : Nat) (g : Int) (V : List RV) (E : List EV) : Prop where
  sum : SumOf (E.map (rowV g)) V
  bd : ∀ a ∈ V, Bd (E.length : Nat) (totJ E) a
theorem Held.nil (q : Nat) (g : Int) : Held q g [] [] := ⟨SumOf.nil, fun a ha => by cases ha⟩
theorem Held.more {L M : List ByteArray} {g : Int} {V : List RV} {E : List EV} {z : EV} (h : Held M.length g V E) (hg : okGran g) (hO : ∀ a ∈ V, OkR M.length a) (hz : EvOk L M z.D z.X z.t) (hN : (E.length : Int) + 1 ≤ 1048576) (hT : ∀ j, j < M.length → totJ E j + totJ [z] j ≤ 4611686018427387904) :
    (insK V (rowV g z)).2 = 0 ∧ Held M.length g (insK V (rowV g z)).1 (E ++ [z]) := by
  have hx : OkR M.length (rowV g z) := (rowX_ok hz hg).r
  obtain ⟨h1, h2⟩ := insK_fit h.sum.strict hO hx h.bd (rowV_bd (g := g) hz) hN hT ⟨by omega, by omega⟩ (fun j => ⟨totJ_ge _ _, totJ_ge _ _⟩)
  refine ⟨h1, ?_, fun a ha => ?_⟩
  · rw [List.map_append, List.map_singleton]
    exact h.sum.more (insK_fold h.sum.strict hO hx h1)
  · refine (h2 a ha).mono (by rw [List.length_append]; simp) (fun j => ?_)
    rw [totJ_app]; exact Int.le_refl _
theorem addR_more {L M : List ByteArray} {g : Int} {V : List RV} {E : List EV} {z : EV} (h : Held M.length g V E) (hg : okGran g) (hO : ∀ a ∈ V, OkR M.length a) (hz : EvOk L M z.D z.X z.t) (hN : (E.length : Int) + 1 ≤ 1048576) (hT : ∀ j, j < M.length → totJ E j + totJ [z] j ≤ 4611686018427387904) :
    (addR V 0 (rowX z.t g z.D z.X)).1 = 0 ∧ Held M.length g (addR V 0 (rowX z.t g z.D z.X)).2 (E ++ [z]) := by
  obtain ⟨h1, h2⟩ := h.more hg hO hz hN hT
  have h3 : (insK V (rowX z.t g z.D z.X)).2 = 0 := h1
  unfold addR
  rw [if_pos rfl, if_pos h3]
  exact ⟨rfl, h2⟩
theorem sumF_both {k : RV} {A B : List RV} (hA : ∀ x ∈ A, cmpV k x = 0) (hB : ∀ x ∈ B, cmpV k x = 0) : sumF (sumF A ++ sumF B) = sumF (A ++ B) := by
  have hsB : ∀ x ∈ sumF B, cmpV k x = 0 := by
    have key : ∀ (l : List RV) (z : Option RV), (∀ x ∈ l, cmpV k x = 0) → (∀ x, z = some x → cmpV k x = 0) → ∀ x, l.foldl oneP z = some x → cmpV k x = 0 := by
      intro l
      induction l with
      | nil => intro z _ hz x hx; exact hz x hx
      | cons b l ih =>
        intro z hl hz x hx
        rw [List.foldl_cons] at hx
        refine ih _ (fun y hy => hl y (List.mem_cons_of_mem _ hy)) (fun y hy => ?_) x hx
        cases z with
        | none => cases hy; exact hl _ List.mem_cons_self
        | some a =>
          cases hy
          have := hz a rfl
          rw [cmpV_right (plusV_key a b)]; exact this
    intro x hx
    unfold sumF at hx
    exact key B none hB (fun x h => by cases h) x (by simpa using hx)
  rw [sum_sum]
  have e1 : sumF (A ++ sumF B) = sumF (sumF B ++ A) := sumF_perm (k := k) List.perm_append_comm (fun x hx => (List.mem_append.1 hx).elim (hA x) (hsB x))
  have e2 : sumF (A ++ B) = sumF (B ++ A) := sumF_perm (k := k) List.perm_append_comm (fun x hx => (List.mem_append.1 hx).elim (hA x) (hB x))
  rw [e1, e2, sum_sum]
theorem SumOf.two {A B P Q O : List RV} (h : SumOf A P) (h' : SumOf B Q) (g : FoldOf (P ++ Q) O) : SumOf (A ++ B) O := by
  refine ⟨g.strict, fun k => ?_⟩
  have hk : ∀ (l : List RV), ∀ x ∈ l.filter (keyV k), cmpV k x = 0 := fun l x hx => by simpa [keyV] using (List.mem_filter.1 hx).2
  rw [g.sum.same k, List.filter_append, List.filter_append, h.same k, h'.same k]
  exact sumF_both (hk A) (hk B)
theorem strict_one' {V : List RV} (h : Strict V) (k : RV) : V.filter (keyV k) = [] ∨ ∃ a, V.filter (keyV k) = [a] := strict_one h k
/-- Two indexes' rows fold. -/
theorem two_fold {q : Nat} {g : Int} {U V : List RV} {A B : List EV} (h : Held q g U A) (h' : Held q g V B) (hU : ∀ a ∈ U, OkR q a) (hV : ∀ a ∈ V, OkR q a) (hN : (A.length : Int) + (B.length : Int) ≤ 1048576) (hT : ∀ j, j < q → totJ A j + totJ B j ≤ 4611686018427387904) :
    (refF [] (U ++ V)).2 = 0 ∧ SumOf ((A ++ B).map (rowV g)) (refF [] (U ++ V)).1 := by
  have hK : ∀ a ∈ U ++ V, OkR q a := fun a ha => (List.mem_append.1 ha).elim (hU a) (hV a)
  rcases refF_all (q := q) (U ++ V) [] [] FoldOf.nil (fun a ha => absurd ha List.not_mem_nil) (fun a ha => absurd ha List.not_mem_nil) hK with ⟨h1, h2⟩ | ⟨_, _, k, h3⟩
  · refine ⟨h1, ?_⟩
    rw [List.map_append]
    exact h.sum.two h'.sum (by simpa using h2)
  · exfalso
    apply h3
    rw [List.nil_append, List.filter_append]
    rcases strict_one h.sum.strict k with e1 | ⟨a, e1⟩
    · rcases strict_one h'.sum.strict k with e2 | ⟨b, e2⟩
      · rw [e1, e2]; rfl
      · rw [e1, e2]; rfl
    · rcases strict_one h'.sum.strict k with e2 | ⟨b, e2⟩
      · rw [e1, e2]; rfl
      · rw [e1, e2]
        have ha : a ∈ U.filter (keyV k) := by rw [e1]; exact List.mem_singleton_self a
        have hb : b ∈ V.filter (keyV k) := by rw [e2]; exact List.mem_singleton_self b
        have k1 : cmpV k a = 0 := by simpa [keyV] using (List.mem_filter.1 ha).2
        have k2 : cmpV k b = 0 := by simpa [keyV] using (List.mem_filter.1 hb).2
        have hj := join_fit (hU a (List.mem_filter.1 ha).1) (hV b (List.mem_filter.1 hb).1) (by rw [← cmpV_left k1]; exact k2) (h.bd a (List.mem_filter.1 ha).1) (h'.bd b (List.mem_filter.1 hb).1) hN hT
        show (joinAll a [b]).2 = 0
        rw [joinAll, if_pos hj, joinAll]
/-- What is spent on events. -/
structure Spent (q : Nat) (S : List Int) (E : List EV) : Prop where
  len : S.length = q
  tot : ∀ (j : Nat) (h : j < S.length), S[j] = totJ E j ∧ S[j] ≤ 4611686018427387904
theorem addS_at : ∀ (S X T : List Int), addS S X = some T → S.length = X.length → T.length = S.length ∧ ∀ (j : Nat) (h : j < T.length) (hS : j < S.length), T[j] = S[j] + szI (X.getD j 0) ∧ T[j] ≤ 4611686018427387904 := by
  intro S
  induction S with
  | nil =>
    intro X T h hl
    cases X with
    | nil => rw [addS] at h; cases h; exact ⟨rfl, fun j h => absurd h (by simp)⟩; intro _ _ _ _ h; cases h
    | cons x X => simp at hl
  | cons s S ih =>
    intro X T h hl
    cases X with
    | nil => simp at hl
    | cons x X =>
      rw [addS] at h
      split at h
      · cases h
      · rename_i hb
        rcases he : addS S X with _ | T'
        · rw [he] at h; cases h
        · rw [he] at h
          simp at h
          subst h
          obtain ⟨h1, h2⟩ := ih X T' he (by simpa using hl)
          refine ⟨by simp [h1], fun j hj hS => ?_⟩
          cases j with
          | zero => simp; omega
          | succ j =>
            have := h2 j (by simpa using hj) (by simpa using hS)
            simpa using this
theorem Spent.more {L M : List ByteArray} {S T : List Int} {E : List EV} {z : EV} {k k' v : Int} (h : Spent M.length S E) (hz : v = 0 → z.X.length = M.length) (hc : chg k S z.X M.length v = ((k', T), 0)) : v = 0 ∧ k' = k + 1 ∧ k < 1048576 ∧ Spent M.length T (E ++ [z]) := by
  unfold chg at hc
  by_cases hv : v = 0
  · rw [if_pos hv] at hc
    by_cases h1 : S.length ≠ M.length ∨ k < 0 ∨ 1048576 ≤ k
    · rw [if_pos h1] at hc; exact absurd (show (182 : Int) = 0 from congrArg Prod.snd hc) (by decide)
    · rw [if_neg h1] at hc
      unfold chgS at hc
      rcases he : addS S z.X with _ | T'
      · rw [he] at hc; exact absurd (show (182 : Int) = 0 from congrArg Prod.snd hc) (by decide)
      · rw [he] at hc
        simp only [Prod.mk.injEq, and_true] at hc
        obtain ⟨e1, rfl⟩ := hc
        obtain ⟨h2, h3⟩ := addS_at S z.X T' he (by rw [h.len, hz hv])
        refine ⟨hv, e1.symm, by omega, by rw [h2, h.len], fun j hj => ?_⟩
        obtain ⟨h4, h5⟩ := h3 j hj (by omega)
        refine ⟨?_, h5⟩
        rw [h4, totJ_app, totJ_one, (h.tot j (by omega)).1]
  · rw [if_neg hv] at hc
    exact absurd (show v = 0 from congrArg Prod.snd hc) hv
theorem Spent.bd {q : Nat} {S : List Int} {E : List EV} (h : Spent q S E) {j : Nat} (hj : j < q) : totJ E j ≤ 4611686018427387904 := by
  have h1 := h.tot j (by rw [h.len]; exact hj)
  omega
theorem fold_post {q : Nat} {Z : List RZ} {K' : List RV} {Y : List RZ} {x : Int} (hs : SortsTo (Z.map Prod.snd) K') (hf : foldL K' = (Y.map Prod.snd, x)) (hK : ∀ a ∈ Z.map Prod.snd, OkR q a) : refF [] (Z.map Prod.snd) = (Y.map Prod.snd, x) := by
  rw [← hf]; exact (fold_one hs hK).symm
end Go.Proofs.YtmmeekmiildliaaGreatDoor
