/- Joined in any order. -/
import Derived.Test.YtbccjkjibffbkaaKP
namespace Go.Proofs.Ytbccjkjibffbkaa
open Go.RowKit Go.Shelf
set_option linter.unusedSimpArgs false
set_option linter.unusedVariables false
/-- Two aggs together, whatever they come to. -/
def plusA (a b : Ag) : Ag := (a.1 + b.1, min a.2.1 b.2.1, max a.2.2 b.2.2)
def plusV (a b : RV) : RV := ⟨a.t, a.dims, a.count + b.count, List.zipWith plusA a.aggs b.aggs⟩
theorem plusA_comm (a b : Ag) : plusA a b = plusA b a := by unfold plusA; rw [Int.add_comm, Int.min_comm, Int.max_comm]
theorem plusA_right (a b c : Ag) : plusA (plusA a b) c = plusA (plusA a c) b := by
  unfold plusA
  simp only [Prod.mk.injEq]
  refine ⟨by omega, by omega, by omega⟩
theorem zip_right : ∀ X Y Z : List Ag, List.zipWith plusA (List.zipWith plusA X Y) Z = List.zipWith plusA (List.zipWith plusA X Z) Y
  | [], _, _ => by simp
  | _ :: _, [], Z => by simp
  | _ :: _, _ :: _, [] => by simp
  | a :: X, b :: Y, c :: Z => by simp only [List.zipWith_cons_cons]; rw [plusA_right, zip_right X Y Z]
theorem zip_comm : ∀ X Y : List Ag, List.zipWith plusA X Y = List.zipWith plusA Y X
  | [], _ => by simp
  | _ :: _, [] => by simp
  | a :: X, b :: Y => by simp only [List.zipWith_cons_cons]; rw [plusA_comm, zip_comm X Y]
theorem joinG_plus : ∀ X Y : List Ag, X.length = Y.length → (joinG X Y).2 = 0 → (joinG X Y).1 = List.zipWith plusA X Y := by
  intro X
  induction X with
  | nil => intro Y hl _; cases Y with
    | nil => rfl
    | cons b Y => simp at hl
  | cons a X ih =>
    intro Y hl h
    cases Y with
    | nil => simp at hl
    | cons b Y =>
      rw [joinG] at h ⊢
      have hA : (joinA (toA3 a) (toA3 b)).2 = 0 → ofA3 (joinA (toA3 a) (toA3 b)).1 = plusA a b := fun h => by
        unfold joinA at h ⊢
        by_cases h1 : (toA3 a).right = true ∧ (toA3 b).right = true
        · rw [if_pos h1] at h ⊢
          by_cases h2 : fit1 ((toA3 a).s + (toA3 b).s) = true
          · rw [if_pos h2]; rfl
          · rw [if_neg h2] at h; exact absurd h (by decide)
        · rw [if_neg h1] at h; exact absurd h (by decide)
      have hl' : X.length = Y.length := by simpa using hl
      by_cases h1 : (joinA (toA3 a) (toA3 b)).2 = 0
      · rw [if_pos h1] at h ⊢
        by_cases h2 : (joinG X Y).2 = 0
        · simp only [h2, if_true] at h ⊢
          rw [List.zipWith_cons_cons, ← hA h1, ← ih Y hl' h2]
        · simp [h2] at h
      · rw [if_neg h1] at h; exact absurd h h1
theorem joinR_plus {a b : RV} (h : (joinR a b).2 = 0) : (joinR a b).1 = plusV a b := by
  unfold joinR at h ⊢
  by_cases h1 : cmpV a b = 0 ∧ a.aggs.length = b.aggs.length
  · rw [if_pos h1] at h ⊢
    by_cases h2 : 1048576 < a.count + b.count
    · rw [if_pos h2] at h; exact absurd h (by decide)
    · rw [if_neg h2] at h ⊢
      by_cases h3 : (joinG a.aggs b.aggs).2 = 0
      · rw [if_pos h3]; show (⟨a.t, a.dims, a.count + b.count, (joinG a.aggs b.aggs).1⟩ : RV) = _; rw [joinG_plus _ _ h1.2 h3]; rfl
      · rw [if_neg h3] at h; exact absurd h h3
  · rw [if_neg h1] at h; exact absurd h (by decide)
/-- One row more. -/
def oneP : Option RV → RV → Option RV
  | none, b => some b
  | some a, b => some (plusV a b)
def sumF (A : List RV) : List RV := (A.foldl oneP none).toList
theorem oneP_right {x y : RV} (h : cmpV x y = 0) (z : Option RV) : oneP (oneP z x) y = oneP (oneP z y) x := by
  cases z with
  | none =>
    obtain ⟨h1, h2⟩ := cmpV_zero.1 h
    show some (plusV x y) = some (plusV y x)
    unfold plusV
    rw [h1, h2, Int.add_comm, zip_comm]
  | some a =>
    show some (plusV (plusV a x) y) = some (plusV (plusV a y) x)
    unfold plusV
    simp only
    rw [zip_right, show a.count + x.count + y.count = a.count + y.count + x.count by omega]
theorem foldl_joinAll : ∀ (M : List RV) (a : RV), (joinAll a M).2 = 0 → M.foldl oneP (some a) = some (joinAll a M).1 := by
  intro M
  induction M with
  | nil => intro a _; rfl
  | cons b M ih =>
    intro a h
    rw [joinAll] at h ⊢
    by_cases h1 : (joinR a b).2 = 0
    · rw [if_pos h1] at h ⊢
      show M.foldl oneP (some (plusV a b)) = _
      rw [← joinR_plus h1]; exact ih _ h
    · rw [if_neg h1] at h; exact absurd h h1
theorem grp_sum (A : List RV) (h : (grp A).2 = 0) : (grp A).1 = sumF A := by
  cases A with
  | nil => rfl
  | cons a M =>
    show [(joinAll a M).1] = ((a :: M).foldl oneP none).toList
    rw [List.foldl_cons]
    show _ = (M.foldl oneP (some a)).toList
    rw [foldl_joinAll M a h]; rfl
theorem sum_sum (A B : List RV) : sumF (sumF A ++ B) = sumF (A ++ B) := by
  unfold sumF
  rw [List.foldl_append, List.foldl_append]
  congr 2
  cases A.foldl oneP none <;> rfl
/-- What rows come to, in whatever order. -/
structure SumOf (K O : List RV) : Prop where
  strict : Strict O
  same : ∀ k, O.filter (keyV k) = sumF (K.filter (keyV k))
theorem FoldOf.sum {K O : List RV} (h : FoldOf K O) : SumOf K O := ⟨h.strict, fun k => (h.same k).trans (grp_sum _ (h.ok k))⟩
theorem SumOf.nil : SumOf [] [] := ⟨List.Pairwise.nil, fun k => rfl⟩
theorem SumOf.more {A B P O : List RV} (h : SumOf A P) (g : FoldOf (P ++ B) O) : SumOf (A ++ B) O := by
  refine ⟨g.strict, fun k => ?_⟩
  rw [g.sum.same k, List.filter_append, List.filter_append, h.same k, sum_sum]
theorem SumOf.uniq {K L O P : List RV} (h : SumOf K O) (g : SumOf L P) (hp : K.Perm L) : O = P := by
  refine sorted_one O P h.strict.sorted g.strict.sorted fun k => ?_
  rw [h.same k, g.same k]
  unfold sumF
  congr 1
  refine (hp.filter (keyV k)).foldl_eq' (fun x hx y hy z => ?_) none
  have h1 : cmpV k x = 0 := by have := (List.mem_filter.1 hx).2; simpa [keyV] using this
  have h2 : cmpV k y = 0 := by have := (List.mem_filter.1 hy).2; simpa [keyV] using this
  exact oneP_right (by rw [← cmpV_left h1]; exact h2) z
/-- What Lists answers, where it answers rows. -/
theorem lists_sum {q : Nat} {L : List Le} {Y : List RZ} (hq : ∀ z ∈ (L.map Le.Z).flatten, OkR q z.2) (h : listsR L = (Y.map Prod.snd, 0)) :
    allS L = true ∧ FoldOf ((L.map Le.Z).flatten.map Prod.snd) (Y.map Prod.snd) ∧ (∀ z ∈ Y, OkR q z.2) ∧ SrtD Y := by
  unfold listsR at h
  by_cases ha : allS L = true
  · rw [if_pos ha] at h
    have hK : ∀ a ∈ (L.map Le.Z).flatten.map Prod.snd, OkR q a := fun a ha => by
      obtain ⟨z, hz, rfl⟩ := List.mem_map.1 ha
      exact hq z hz
    have hf := refF_of hK h
    have hO := refF_okR (q := q) _ [] (fun a ha => absurd ha List.not_mem_nil) hK _ h
    refine ⟨ha, hf, fun z hz => hO _ (List.mem_map.2 ⟨z, hz, rfl⟩), strict_srt ?_⟩
    exact List.pairwise_map.1 hf.strict
  · rw [if_neg ha] at h
    exact absurd (show (131 : Int) = 0 from congrArg Prod.snd h) (by decide)
theorem rev_perm (L : List Le) : (L.map Le.Z).flatten.Perm (L.reverse.map Le.Z).flatten := by
  induction L with
  | nil => exact List.Perm.refl _
  | cons x L ih =>
    rw [List.reverse_cons, List.map_append, List.flatten_append, List.map_cons, List.flatten_cons]
    show (x.Z ++ (L.map Le.Z).flatten).Perm ((L.reverse.map Le.Z).flatten ++ (x.Z ++ []))
    rw [List.append_nil]
    exact (List.perm_append_comm).trans (ih.append_right _)
end Go.Proofs.Ytbccjkjibffbkaa
