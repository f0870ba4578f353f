/- What rows come to, in any order; a row more under a map of rows. -/
import Derived.Test.YtmmeekmiildliaaGreatDoorJA
namespace Go.Proofs.YtmmeekmiildliaaGreatDoor
open Go.RowKit
set_option linter.unusedSimpArgs false
set_option linter.unusedVariables false
/-- Two aggs together, whatever they come to. -/
def plusA (a b : Ag) : Ag := (a.1 + b.1, min a.2.1 b.2.1, max a.2.2 b.2.2)
def plusV (a b : RV) : RV := ⟨a.t, a.dims, a.count + b.count, List.zipWith plusA a.aggs b.aggs⟩
theorem plusA_comm (a b : Ag) : plusA a b = plusA b a := by unfold plusA; rw [Int.add_comm, Int.min_comm, Int.max_comm]
theorem plusA_right (a b c : Ag) : plusA (plusA a b) c = plusA (plusA a c) b := by
  unfold plusA
  simp only [Prod.mk.injEq]
  refine ⟨by omega, by omega, by omega⟩
theorem zip_right : ∀ X Y Z : List Ag, List.zipWith plusA (List.zipWith plusA X Y) Z = List.zipWith plusA (List.zipWith plusA X Z) Y
  | [], _, _ => by simp
  | _ :: _, [], Z => by simp
  | _ :: _, _ :: _, [] => by simp
  | a :: X, b :: Y, c :: Z => by simp only [List.zipWith_cons_cons]; rw [plusA_right, zip_right X Y Z]
theorem zip_comm : ∀ X Y : List Ag, List.zipWith plusA X Y = List.zipWith plusA Y X
  | [], _ => by simp
  | _ :: _, [] => by simp
  | a :: X, b :: Y => by simp only [List.zipWith_cons_cons]; rw [plusA_comm, zip_comm X Y]
theorem joinG_plus : ∀ X Y : List Ag, X.length = Y.length → (joinG X Y).2 = 0 → (joinG X Y).1 = List.zipWith plusA X Y := by
  intro X
  induction X with
  | nil => intro Y hl _; cases Y with
    | nil => rfl
    | cons b Y => simp at hl
  | cons a X ih =>
    intro Y hl h
    cases Y with
    | nil => simp at hl
    | cons b Y =>
      rw [joinG] at h ⊢
      have hA : (joinA (toA3 a) (toA3 b)).2 = 0 → ofA3 (joinA (toA3 a) (toA3 b)).1 = plusA a b := fun h => by
        unfold joinA at h ⊢
        by_cases h1 : (toA3 a).right = true ∧ (toA3 b).right = true
        · rw [if_pos h1] at h ⊢
          by_cases h2 : fit1 ((toA3 a).s + (toA3 b).s) = true
          · rw [if_pos h2]; rfl
          · rw [if_neg h2] at h; exact absurd h (by decide)
        · rw [if_neg h1] at h; exact absurd h (by decide)
      have hl' : X.length = Y.length := by simpa using hl
      by_cases h1 : (joinA (toA3 a) (toA3 b)).2 = 0
      · rw [if_pos h1] at h ⊢
        by_cases h2 : (joinG X Y).2 = 0
        · simp only [h2, if_true] at h ⊢
          rw [List.zipWith_cons_cons, ← hA h1, ← ih Y hl' h2]
        · simp [h2] at h
      · rw [if_neg h1] at h; exact absurd h h1
theorem joinR_plus {a b : RV} (h : (joinR a b).2 = 0) : (joinR a b).1 = plusV a b := by
  unfold joinR at h ⊢
  by_cases h1 : cmpV a b = 0 ∧ a.aggs.length = b.aggs.length
  · rw [if_pos h1] at h ⊢
    by_cases h2 : 1048576 < a.count + b.count
    · rw [if_pos h2] at h; exact absurd h (by decide)
    · rw [if_neg h2] at h ⊢
      by_cases h3 : (joinG a.aggs b.aggs).2 = 0
      · rw [if_pos h3]; show (⟨a.t, a.dims, a.count + b.count, (joinG a.aggs b.aggs).1⟩ : RV) = _; rw [joinG_plus _ _ h1.2 h3]; rfl
      · rw [if_neg h3] at h; exact absurd h h3
  · rw [if_neg h1] at h; exact absurd h (by decide)
/-- One row more. -/
def oneP : Option RV → RV → Option RV
  | none, b => some b
  | some a, b => some (plusV a b)
def sumF (A : List RV) : List RV := (A.foldl oneP none).toList
theorem oneP_right {x y : RV} (h : cmpV x y = 0) (z : Option RV) : oneP (oneP z x) y = oneP (oneP z y) x := by
  cases z with
  | none =>
    obtain ⟨h1, h2⟩ := cmpV_zero.1 h
    show some (plusV x y) = some (plusV y x)
    unfold plusV
    rw [h1, h2, Int.add_comm, zip_comm]
  | some a =>
    show some (plusV (plusV a x) y) = some (plusV (plusV a y) x)
    unfold plusV
    simp only
    rw [zip_right, show a.count + x.count + y.count = a.count + y.count + x.count by omega]
theorem foldl_joinAll : ∀ (M : List RV) (a : RV), (joinAll a M).2 = 0 → M.foldl oneP (some a) = some (joinAll a M).1 := by
  intro M
  induction M with
  | nil => intro a _; rfl
  | cons b M ih =>
    intro a h
    rw [joinAll] at h ⊢
    by_cases h1 : (joinR a b).2 = 0
    · rw [if_pos h1] at h ⊢
      show M.foldl oneP (some (plusV a b)) = _
      rw [← joinR_plus h1]; exact ih _ h
    · rw [if_neg h1] at h; exact absurd h h1
theorem grp_sum (A : List RV) (h : (grp A).2 = 0) : (grp A).1 = sumF A := by
  cases A with
  | nil => rfl
  | cons a M =>
    show [(joinAll a M).1] = ((a :: M).foldl oneP none).toList
    rw [List.foldl_cons]
    show _ = (M.foldl oneP (some a)).toList
    rw [foldl_joinAll M a h]; rfl
theorem sum_sum (A B : List RV) : sumF (sumF A ++ B) = sumF (A ++ B) := by
  unfold sumF
  rw [List.foldl_append, List.foldl_append]
  congr 2
  cases A.foldl oneP none <;> rfl
/-- What rows come to, in whatever order. -/
structure SumOf (K O : List RV) : Prop where
  strict : Strict O
  same : ∀ k, O.filter (keyV k) = sumF (K.filter (keyV k))
theorem FoldOf.sum {K O : List RV} (h : FoldOf K O) : SumOf K O := ⟨h.strict, fun k => (h.same k).trans (grp_sum _ (h.ok k))⟩
theorem SumOf.nil : SumOf [] [] := ⟨List.Pairwise.nil, fun k => rfl⟩
theorem SumOf.more {A B P O : List RV} (h : SumOf A P) (g : FoldOf (P ++ B) O) : SumOf (A ++ B) O := by
  refine ⟨g.strict, fun k => ?_⟩
  rw [g.sum.same k, List.filter_append, List.filter_append, h.same k, sum_sum]
theorem SumOf.uniq {K L O P : List RV} (h : SumOf K O) (g : SumOf L P) (hp : K.Perm L) : O = P := by
  refine sorted_one O P h.strict.sorted g.strict.sorted fun k => ?_
  rw [h.same k, g.same k]
  unfold sumF
  congr 1
  refine (hp.filter (keyV k)).foldl_eq' (fun x hx y hy z => ?_) none
  have h1 : cmpV k x = 0 := by have := (List.mem_filter.1 hx).2; simpa [keyV] using this
  have h2 : cmpV k y = 0 := by have := (List.mem_filter.1 hy).2; simpa [keyV] using this
  exact oneP_right (by rw [← cmpV_left h1]; exact h2) z
/-- V' is V with the row b. -/
inductive PlusTo (V : List RV) (b : RV) (V' : List RV) : Prop where
  | new (h : V'.Perm (V ++ [b])) : PlusTo V b V'
  | old (A : List RV) (a : RV) (B : List RV) (h : V = A ++ a :: B) (h' : V' = A ++ plusV a b :: B) (hk : cmpV a b = 0) : PlusTo V b V'
theorem insK_plus {V : List RV} {x : RV} (h : (insK V x).2 = 0) : PlusTo V x (insK V x).1 := by
  have hsplit : V.takeWhile (below x) ++ V.dropWhile (below x) = V := List.takeWhile_append_dropWhile
  unfold insK at h ⊢
  split
  · rename_i hD
    rw [hD, List.append_nil] at hsplit
    refine .new ?_
    show (V.takeWhile (below x) ++ [x]).Perm _
    rw [hsplit]
  · rename_i r R hD
    rw [hD] at h hsplit
    simp only at h
    split
    · rename_i h1
      rw [if_pos h1] at h
      split
      · rename_i h2
        exact .old (V.takeWhile (below x)) r R hsplit.symm (by rw [joinR_plus h2]) h1
      · rename_i h2; rw [if_neg h2] at h; exact absurd h h2
    · rename_i h1
      refine .new ?_
      show (V.takeWhile (below x) ++ x :: r :: R).Perm _
      have e : V ++ [x] = V.takeWhile (below x) ++ ((r :: R) ++ [x]) := by rw [← List.append_assoc, hsplit]
      rw [e]
      exact List.Perm.append_left _ (List.perm_append_singleton x (r :: R)).symm
theorem sumF_perm {k : RV} {A B : List RV} (hp : A.Perm B) (hA : ∀ x ∈ A, cmpV k x = 0) : sumF A = sumF B := by
  unfold sumF
  congr 1
  refine hp.foldl_eq' (fun x hx y hy z => ?_) none
  have h1 := hA x hx
  have h2 := hA y hy
  exact oneP_right (by rw [← cmpV_left h1]; exact h2) z
theorem oneP_plus (z : Option RV) (a b : RV) (h : cmpV a b = 0) : oneP z (plusV a b) = oneP (oneP z a) b := by
  cases z with
  | none => rfl
  | some c =>
    show some (plusV c (plusV a b)) = some (plusV (plusV c a) b)
    unfold plusV
    simp only
    have hz : ∀ X Y Z : List Ag, List.zipWith plusA X (List.zipWith plusA Y Z) = List.zipWith plusA (List.zipWith plusA X Y) Z := by
      intro X
      induction X with
      | nil => intro Y Z; simp
      | cons a X ih =>
        intro Y Z
        cases Y with
        | nil => simp
        | cons b Y =>
          cases Z with
          | nil => simp
          | cons c Z =>
            simp only [List.zipWith_cons_cons]
            rw [ih]
            congr 1
            unfold plusA
            simp only [Prod.mk.injEq]
            refine ⟨by omega, by omega, by omega⟩
    rw [hz, Int.add_assoc]
theorem sumF_plus (A : List RV) (a b : RV) (B : List RV) (h : cmpV a b = 0) : sumF (A ++ plusV a b :: B) = sumF (A ++ a :: b :: B) := by
  unfold sumF
  rw [List.foldl_append, List.foldl_append, List.foldl_cons, List.foldl_cons, List.foldl_cons, oneP_plus _ a b h]
/-- A map of rows that joins go through. -/
structure Thru (f : RV → RV) : Prop where
  key : ∀ {a b : RV}, cmpV a b = 0 → cmpV (f a) (f b) = 0
  plus : ∀ {a b : RV}, cmpV a b = 0 → f (plusV a b) = plusV (f a) (f b)
theorem plusV_key (a b : RV) : cmpV (plusV a b) a = 0 := cmpV_zero.2 ⟨rfl, rfl⟩
theorem keyV_eq {k a b : RV} (h : cmpV a b = 0) : keyV k a = keyV k b := by rw [keyV_sym k a, keyV_sym k b, keyV_left h]
theorem SumOf.plus {f : RV → RV} (hf : Thru f) {V V' P P' : List RV} {b : RV} (h : SumOf (V.map f) P) (hV : PlusTo V b V') (hP : FoldOf (P ++ [f b]) P') : SumOf (V'.map f) P' := by
  have h1 : SumOf (V.map f ++ [f b]) P' := h.more hP
  refine ⟨h1.strict, fun k => ?_⟩
  rw [h1.same k]
  have hk : ∀ x ∈ (V.map f ++ [f b]).filter (keyV k), cmpV k x = 0 := fun x hx => by simpa [keyV] using (List.mem_filter.1 hx).2
  rcases hV with hp | ⟨A, a, B, rfl, rfl, hc⟩
  · refine sumF_perm (k := k) ?_ hk
    have := (hp.map f).filter (keyV k)
    rw [List.map_append, List.map_singleton] at this
    exact this.symm
  · have e2 : cmpV (f a) (f b) = 0 := hf.key hc
    have e3 : (A ++ plusV a b :: B).map f = A.map f ++ plusV (f a) (f b) :: B.map f := by rw [List.map_append, List.map_cons, hf.plus hc]
    have e4 : (A ++ a :: B).map f = A.map f ++ f a :: B.map f := by rw [List.map_append, List.map_cons]
    rw [e3, e4]
    clear hk h h1 e3 e4
    simp only [List.filter_append, List.filter_cons]
    by_cases hq : keyV k (f a) = true
    · have hqb : keyV k (f b) = true := by rw [← keyV_eq e2]; exact hq
      have hqp : keyV k (plusV (f a) (f b)) = true := by rw [keyV_eq (plusV_key _ _)]; exact hq
      rw [if_pos hq, if_pos hqp, if_pos hqb, List.filter_nil, sumF_plus _ _ _ _ e2]
      refine sumF_perm (k := k) ?_ (fun x hx => ?_)
      · rw [List.append_assoc]
        refine List.Perm.append_left _ ?_
        rw [List.cons_append]
        exact (List.perm_append_singleton (f b) _).cons _
      · simp only [List.mem_append, List.mem_cons, List.mem_filter, List.not_mem_nil, or_false] at hx
        rcases hx with (hx | rfl | hx) | rfl
        · simpa [keyV] using hx.2
        · simpa [keyV] using hq
        · simpa [keyV] using hx.2
        · simpa [keyV] using hqb
    · have hqb : ¬ keyV k (f b) = true := by rw [← keyV_eq e2]; exact hq
      have hqp : ¬ keyV k (plusV (f a) (f b)) = true := by rw [keyV_eq (plusV_key _ _)]; exact hq
      rw [if_neg hq, if_neg hqp, if_neg hqb, List.filter_nil, List.append_nil]
/-- A row in its bucket. -/
def bkR (g : Int) (r : RV) : RV := ⟨flr r.t g, r.dims, r.count, r.aggs⟩
theorem bk_thru (g : Int) : Thru (bkR g) :=
  ⟨fun h => by obtain ⟨h1, h2⟩ := cmpV_zero.1 h; exact cmpV_zero.2 ⟨h1, by show flr _ g = flr _ g; rw [h2]⟩, fun _ => rfl⟩
theorem rowX_bk (t g : Int) (D : List ByteArray) (X : List Int) : rowX t g D X = bkR g (rowX t 1 D X) := by
  unfold rowX bkR
  simp only [RV.mk.injEq, and_true, true_and]
  show flr t g = flr (flr t 1) g
  rw [show flr t 1 = t by unfold flr; omega]
theorem insK_fold {q : Nat} {V : List RV} {x : RV} (h : Strict V) (hO : ∀ a ∈ V, OkR q a) (hx : OkR q x) (h0 : (insK V x).2 = 0) : FoldOf (V ++ [x]) (insK V x).1 := by
  rcases insK_step (FoldOf.self h) hO hO hx with ⟨_, h1, _⟩ | ⟨h1, _⟩
  · exact h1
  · rw [h0] at h1; exact absurd h1 (by decide)
/-- An event more in both. -/
theorem buckets_more {q : Nat} {g : Int} {U V : List RV} {r : RV} (h : SumOf (V.map (bkR g)) U) (hU : ∀ a ∈ U, OkR q a) (hr : OkR q (bkR g r)) (h1 : (insK U (bkR g r)).2 = 0) (h2 : (insK V r).2 = 0) : SumOf ((insK V r).1.map (bkR g)) (insK U (bkR g r)).1 :=
  h.plus (bk_thru g) (insK_plus h2) (insK_fold h.strict hU hr h1)
theorem insK_121 {q : Nat} {V : List RV} {x : RV} (h : Strict V) (hO : ∀ a ∈ V, OkR q a) (hx : OkR q x) : (insK V x).2 = 0 ∨ (insK V x).2 = 121 := by
  rcases insK_step (FoldOf.self h) hO hO hx with ⟨h1, _⟩ | ⟨h1, _⟩
  · exact .inl h1
  · exact .inr h1
/-- What holds of the times. -/
theorem insK_tm {P : Int → Prop} {V : List RV} {x : RV} (h : (insK V x).2 = 0) (hV : ∀ a ∈ V, P a.t) (hx : P x.t) : ∀ a ∈ (insK V x).1, P a.t := by
  rcases insK_plus h with hp | ⟨A, a, B, rfl, hE, _⟩
  · intro a ha
    rcases List.mem_append.1 (hp.mem_iff.1 ha) with h1 | h1
    · exact hV a h1
    · rw [List.mem_singleton.1 h1]; exact hx
  · rw [hE]
    intro b hb
    rcases List.mem_append.1 hb with h1 | h1
    · exact hV b (by simp [h1])
    · rcases List.mem_cons.1 h1 with rfl | h1
      · exact hV a (by simp)
      · exact hV b (by simp [h1])
theorem flr_mod {t g : Int} (hg : 1 ≤ g) : flr t g % g = 0 := by
  unfold flr
  rw [Int.sub_emod, Int.emod_emod_of_dvd _ (Int.dvd_refl g), Int.sub_self, Int.zero_emod]
/-- Both indexes: of one granularity, and of 1. -/
structure Both (q : Nat) (g : Int) (U V : List RV) : Prop where
  sum : SumOf (V.map (bkR g)) U
  u : ∀ a ∈ U, a.t % g = 0
  v : ∀ a ∈ V, a.t ≤ 1099511627776
theorem both_more {q : Nat} {g t v : Int} {D : List ByteArray} {X : List Int} {L M : List ByteArray} {U V : List RV} (h : Both q g U V) (hg : okGran g) (hsu : Strict U) (hsv : Strict V) (hU : ∀ a ∈ U, OkR M.length a) (hV : ∀ a ∈ V, OkR M.length a) (hv : CheckIs L M D X t v)
    (h1 : (addR U v (rowX t g D X)).1 ≠ 121) (h2 : (addR V v (rowX t 1 D X)).1 ≠ 121) : (addR U v (rowX t g D X)).1 = (addR V v (rowX t 1 D X)).1 ∧ Both q g (addR U v (rowX t g D X)).2 (addR V v (rowX t 1 D X)).2 := by
  unfold addR at h1 h2 ⊢
  by_cases hv0 : v = 0
  · have hev := hv.ok hv0
    have hr := (rowX_ok hev hg).r
    have hr1 := (rowX_ok hev (g := 1) ⟨by decide, by decide⟩).r
    rw [if_pos hv0] at h1 h2 ⊢
    rcases insK_121 hsu hU hr with e1 | e1
    · rcases insK_121 hsv hV hr1 with e2 | e2
      · rw [if_pos e1, if_pos hv0, if_pos e2]
        refine ⟨rfl, ?_, insK_tm (P := fun t => t % g = 0) e1 h.u (flr_mod hg.1), insK_tm (P := fun t => t ≤ 1099511627776) e2 h.v (by show flr t 1 ≤ _; rw [show flr t 1 = t by unfold flr; omega]; exact hev.t1)⟩
        have e3 := rowX_bk t g D X
        rw [e3] at e1 hr ⊢
        exact buckets_more h.sum hU hr e1 e2
      · rw [if_neg (by omega)] at h2; exact absurd e2 h2
    · rw [if_neg (by omega)] at h1; exact absurd e1 h1
  · rw [if_neg hv0, if_neg hv0]
    exact ⟨rfl, h⟩
theorem fold_of_ref {q : Nat} {K O : List RV} (h : refF [] K = (O, 0)) (hK : ∀ a ∈ K, OkR q a) : FoldOf K O := by
  rcases refF_all K [] [] FoldOf.nil (fun a ha => absurd ha List.not_mem_nil) (fun a ha => absurd ha List.not_mem_nil) hK with ⟨_, h2⟩ | ⟨h1, _⟩
  · rw [h] at h2; simpa using h2
  · rw [h] at h1; exact absurd (show (0 : Int) = 121 from h1) (by decide)
end Go.Proofs.YtmmeekmiildliaaGreatDoor
