/- What a sorted list of rows folds to. -/
import Derived.Test.YtkfcpmmiimpkbaaRD
namespace Go.Proofs.Ytkfcpmmiimpkbaa
open Go.RowKit
set_option linter.unusedSimpArgs false
set_option linter.unusedVariables false
/-- One row joined with others, one behind the other, or the first error. -/
def joinAll : RV → List RV → RV × Int
  | r, [] => (r, 0)
  | r, b :: L => if (joinR r b).2 = 0 then joinAll (joinR r b).1 L else (RV.zero, (joinR r b).2)
def foldF : Nat → List RV → List RV × Int
  | 0, _ => ([], 0)
  | _ + 1, [] => ([], 0)
  | n + 1, a :: L =>
    if (joinAll a (L.takeWhile (keyV a))).2 = 0 then
      (if (foldF n (L.dropWhile (keyV a))).2 = 0 then ((joinAll a (L.takeWhile (keyV a))).1 :: (foldF n (L.dropWhile (keyV a))).1, 0) else ([], (foldF n (L.dropWhile (keyV a))).2))
    else ([], (joinAll a (L.takeWhile (keyV a))).2)
/-- A sorted list, folded. -/
def foldL (K : List RV) : List RV × Int := foldF K.length K
theorem dropWhile_len {α : Type} (p : α → Bool) (L : List α) : (L.dropWhile p).length ≤ L.length := (List.dropWhile_sublist p).length_le
theorem foldF_fuel : ∀ (n m : Nat) (K : List RV), K.length ≤ n → K.length ≤ m → foldF n K = foldF m K := by
  intro n
  induction n with
  | zero =>
    intro m K h1 h2
    obtain rfl : K = [] := List.eq_nil_of_length_eq_zero (by omega)
    cases m <;> rfl
  | succ n ih =>
    intro m K h1 h2
    cases K with
    | nil => cases m <;> rfl
    | cons a L =>
      cases m with
      | zero => simp at h2
      | succ m =>
        have hl := dropWhile_len (keyV a) L
        rw [foldF, foldF, ih m (L.dropWhile (keyV a)) (by simp at h1; omega) (by simp at h2; omega)]
theorem foldL_cons (a : RV) (L : List RV) : foldL (a :: L) = if (joinAll a (L.takeWhile (keyV a))).2 = 0 then
      (if (foldL (L.dropWhile (keyV a))).2 = 0 then ((joinAll a (L.takeWhile (keyV a))).1 :: (foldL (L.dropWhile (keyV a))).1, 0) else ([], (foldL (L.dropWhile (keyV a))).2))
    else ([], (joinAll a (L.takeWhile (keyV a))).2) := by
  unfold foldL
  rw [List.length_cons, foldF, foldF_fuel L.length (L.dropWhile (keyV a)).length (L.dropWhile (keyV a)) (dropWhile_len _ _) (Nat.le_refl _)]
theorem foldL_err (K : List RV) (h : (foldL K).2 ≠ 0) : (foldL K).1 = [] := by
  cases K with
  | nil => rfl
  | cons a L =>
    rw [foldL_cons] at h ⊢
    by_cases e1 : (joinAll a (L.takeWhile (keyV a))).2 = 0
    · rw [if_pos e1] at h ⊢
      by_cases e2 : (foldL (L.dropWhile (keyV a))).2 = 0
      · rw [if_pos e2] at h; exact absurd rfl h
      · rw [if_neg e2]
    · rw [if_neg e1]
/-- What is folded, and what is yet to be. -/
def FoldSt (K O : List RV) (b : Nat) : Prop := ∀ R e, foldL (K.drop b) = (R, e) → foldL K = if e = 0 then (O ++ R, 0) else ([], e)
theorem FoldSt.start (K : List RV) : FoldSt K [] 0 := by
  intro R e h
  rw [List.drop_zero] at h
  have h2 := foldL_err K
  rw [h] at h2 ⊢
  by_cases he : e = 0
  · rw [if_pos he, he]; rfl
  · rw [if_neg he]; rw [show R = [] from h2 he]
theorem take_drop_while {α : Type} (p : α → Bool) : ∀ (L : List α) (m : Nat), m ≤ L.length → (∀ i (h : i < L.length), i < m → p L[i] = true) → (∀ h : m < L.length, p L[m] = false) → L.takeWhile p = L.take m ∧ L.dropWhile p = L.drop m := by
  intro L
  induction L with
  | nil => intro m hm _ _; simp at hm; subst hm; exact ⟨rfl, rfl⟩
  | cons a L ih =>
    intro m hm h1 h2
    cases m with
    | zero =>
      have := h2 (by simp)
      simp only [List.getElem_cons_zero] at this
      rw [List.takeWhile_cons, List.dropWhile_cons, this]; exact ⟨rfl, rfl⟩
    | succ m =>
      have ha := h1 0 (by simp) (by omega)
      simp only [List.getElem_cons_zero] at ha
      have := ih m (by simpa using hm) (fun i h hi => by have := h1 (i + 1) (by simpa using h) (by omega); simpa using this) (fun h => by have := h2 (by simpa using h); simpa using this)
      rw [List.takeWhile_cons, List.dropWhile_cons, ha]
      simp [this.1, this.2]
theorem keyV_true {a b : RV} : keyV a b = true ↔ cmpV a b = 0 := by simp [keyV]
/-- A stretch of one key. -/
structure StK (K : List RV) (b e : Nat) : Prop where
  lt : b < e
  le : e ≤ K.length
  one : ∀ i (h : i + 1 < K.length), b ≤ i → i + 1 < e → cmpV K[i] K[i + 1] = 0
  out : ∀ h : e < K.length, cmpV (K[e - 1]'(by omega)) K[e] ≠ 0
theorem StK.all {K : List RV} {b e : Nat} (h : StK K b e) : ∀ (j : Nat) (hj : b + j < K.length), b + j < e → cmpV (K[b]'(by omega)) K[b + j] = 0 := by
  intro j
  induction j with
  | zero => intro hj _; exact cmpV_self _
  | succ j ih =>
    intro hj he
    have h1 := ih (by omega) (by omega)
    have h2 := h.one (b + j) (by omega) (by omega) (by omega)
    rw [cmpV_left h1]
    exact h2
theorem StK.cut {K : List RV} {b e : Nat} (h : StK K b e) : (K.drop (b + 1)).takeWhile (keyV (K[b]'(by have := h.lt; have := h.le; omega))) = (K.drop (b + 1)).take (e - (b + 1)) ∧ (K.drop (b + 1)).dropWhile (keyV (K[b]'(by have := h.lt; have := h.le; omega))) = K.drop e := by
  have hlt := h.lt
  have hle := h.le
  have hh := take_drop_while (keyV (K[b]'(by omega))) (K.drop (b + 1)) (e - (b + 1)) (by rw [List.length_drop]; omega) (fun i hi him => ?_) (fun hm => ?_)
  · refine ⟨hh.1, hh.2.trans ?_⟩
    rw [List.drop_drop]; congr 1; omega
  · rw [List.length_drop] at hi
    rw [List.getElem_drop, keyV_true]
    have := h.all (i + 1) (by omega) (by omega)
    simpa [Nat.add_assoc, Nat.add_comm 1 i] using this
  · rw [List.length_drop] at hm
    rw [List.getElem_drop]
    have he : e < K.length := by omega
    have h1 := h.all (e - 1 - b) (by omega) (by omega)
    have h2 := h.out he
    have e1 : b + (e - 1 - b) = e - 1 := by omega
    have e2 : b + 1 + (e - (b + 1)) = e := by omega
    simp only [e1] at h1
    simp only [e2]
    rw [Bool.eq_false_iff, ne_eq, keyV_true]
    intro h3
    rw [cmpV_left h1] at h3
    exact h2 h3
theorem FoldSt.next {K O : List RV} {b e : Nat} (h : FoldSt K O b) (hs : StK K b e) {r : RV} (hj : joinAll (K[b]'(by have := hs.lt; have := hs.le; omega)) ((K.drop (b + 1)).take (e - (b + 1))) = (r, 0)) : FoldSt K (O ++ [r]) e := by
  intro R x hr
  have hlt := hs.lt
  have hle := hs.le
  have hc := hs.cut
  have := h (if x = 0 then r :: R else []) x (by
    rw [List.drop_eq_getElem_cons (by omega), foldL_cons, hc.1, hc.2, hj, hr, if_pos rfl]
    by_cases hx : x = 0
    · simp [hx]
    · simp [hx])
  by_cases hx : x = 0
  · simpa [hx] using this
  · simpa [hx] using this
theorem FoldSt.bad {K O : List RV} {b e : Nat} (h : FoldSt K O b) (hs : StK K b e) {r : RV} {x : Int} (hx : x ≠ 0) (hj : joinAll (K[b]'(by have := hs.lt; have := hs.le; omega)) ((K.drop (b + 1)).take (e - (b + 1))) = (r, x)) : foldL K = ([], x) := by
  have hlt := hs.lt
  have hle := hs.le
  have hc := hs.cut
  have := h [] x (by rw [List.drop_eq_getElem_cons (by omega), foldL_cons, hc.1, hj, if_neg hx])
  simpa [hx] using this
theorem FoldSt.fin {K O : List RV} (h : FoldSt K O K.length) : foldL K = (O, 0) := by
  have := h [] 0 (by rw [List.drop_length]; rfl)
  simpa using this
/-- What is joined, and what is yet to be. -/
def AllSt (a : RV) (g : List RV) (r : RV) (k : Nat) : Prop := joinAll r (g.drop k) = joinAll a g
theorem AllSt.start (a : RV) (g : List RV) : AllSt a g a 0 := by unfold AllSt; rw [List.drop_zero]
theorem AllSt.next {a r : RV} {g : List RV} {k : Nat} (h : AllSt a g r k) (hk : k < g.length) {z : RV} (hz : joinR r g[k] = (z, 0)) : AllSt a g z (k + 1) := by
  unfold AllSt at *
  rw [List.drop_eq_getElem_cons hk, joinAll, hz, if_pos rfl] at h
  exact h
theorem AllSt.bad {a r : RV} {g : List RV} {k : Nat} (h : AllSt a g r k) (hk : k < g.length) {z : RV} {x : Int} (hx : x ≠ 0) (hz : joinR r g[k] = (z, x)) : joinAll a g = (RV.zero, x) := by
  unfold AllSt at h
  rw [List.drop_eq_getElem_cons hk, joinAll, hz, if_neg hx] at h
  exact h.symm
theorem AllSt.fin {a r : RV} {g : List RV} (h : AllSt a g r g.length) : joinAll a g = (r, 0) := by
  unfold AllSt at h
  rw [List.drop_length, joinAll] at h
  exact h.symm
theorem joinR_count {a b : RV} (h : (joinR a b).2 = 0) (ha : 0 ≤ a.count) (hb : 0 ≤ b.count) : 0 ≤ (joinR a b).1.count ∧ (joinR a b).1.count ≤ 1048576 := by
  unfold joinR at h ⊢
  by_cases h1 : cmpV a b = 0 ∧ a.aggs.length = b.aggs.length
  · rw [if_pos h1] at h ⊢
    by_cases h2 : 1048576 < a.count + b.count
    · rw [if_pos h2]; exact ⟨Int.le_refl _, by show (0 : Int) ≤ 1048576; decide⟩
    · rw [if_neg h2] at h ⊢
      by_cases h3 : (joinG a.aggs b.aggs).2 = 0
      · rw [if_pos h3]; exact ⟨by show 0 ≤ a.count + b.count; omega, by show a.count + b.count ≤ _; omega⟩
      · rw [if_neg h3]; exact ⟨Int.le_refl _, by show (0 : Int) ≤ 1048576; decide⟩
  · rw [if_neg h1]; exact ⟨Int.le_refl _, by show (0 : Int) ≤ 1048576; decide⟩
end Go.Proofs.Ytkfcpmmiimpkbaa
