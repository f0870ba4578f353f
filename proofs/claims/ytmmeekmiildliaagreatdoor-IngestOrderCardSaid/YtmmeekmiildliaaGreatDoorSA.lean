/- Two stretches in order, put together: the mathematics. -/
import Derived.Test.YtmmeekmiildliaaGreatDoorRB
namespace Go.Proofs.YtmmeekmiildliaaGreatDoor
open Go.RowKit
set_option linter.unusedSimpArgs false
set_option linter.unusedVariables false
theorem cmpV_lt_le {a b c : RV} (h1 : cmpV a b < 0) (h2 : cmpV b c ≤ 0) : cmpV a c < 0 := by
  rcases Int.lt_or_eq_of_le h2 with h | h
  · exact cmpV_tr h1 h
  · rw [← cmpV_right h]; exact h1
theorem cmpV_le_lt {a b c : RV} (h1 : cmpV a b ≤ 0) (h2 : cmpV b c < 0) : cmpV a c < 0 := by
  rcases Int.lt_or_eq_of_le h1 with h | h
  · exact cmpV_tr h h2
  · rw [cmpV_left h]; exact h2
theorem cmpV_le_tr {a b c : RV} (h1 : cmpV a b ≤ 0) (h2 : cmpV b c ≤ 0) : cmpV a c ≤ 0 := by
  rcases Int.lt_or_eq_of_le h1 with h | h
  · exact Int.le_of_lt (cmpV_lt_le h h2)
  · rw [cmpV_left h]; exact h2
theorem cmpV_flip {a b : RV} (h : ¬ cmpV a b < 0) : cmpV b a ≤ 0 := by have := cmpV_neg a b; omega
section
variable {α : Type} (f : α → RV)
def SortedF (L : List α) : Prop := L.Pairwise fun x y => cmpV (f x) (f y) ≤ 0
def SameF (L M : List α) : Prop := ∀ k, M.filter (fun x => keyV k (f x)) = L.filter (fun x => keyV k (f x))
variable {f}
theorem SameF.refl (L : List α) : SameF f L L := fun _ => rfl
theorem SameF.symm {L M : List α} (h : SameF f L M) : SameF f M L := fun k => (h k).symm
theorem SameF.trans {L M N : List α} (h : SameF f L M) (g : SameF f M N) : SameF f L N := fun k => (g k).trans (h k)
theorem SameF.app {L M L' M' : List α} (h : SameF f L M) (g : SameF f L' M') : SameF f (L ++ L') (M ++ M') := fun k => by rw [List.filter_append, List.filter_append, h k, g k]
theorem SameF.swap {A B : List α} (h : ∀ y ∈ B, ∀ x ∈ A, cmpV (f y) (f x) < 0) : SameF f (A ++ B) (B ++ A) := fun k => by
  rw [List.filter_append, List.filter_append]
  rcases hA : A.filter (fun x => keyV k (f x)) with _ | ⟨x, A'⟩
  · simp
  · have hx : x ∈ A.filter (fun x => keyV k (f x)) := by rw [hA]; exact List.mem_cons_self ..
    have hx1 := List.mem_filter.1 hx
    have hB : B.filter (fun x => keyV k (f x)) = [] := by
      rw [List.filter_eq_nil_iff]
      intro y hy hk
      have h1 := h y hy x hx1.1
      have h2 : cmpV k (f x) = 0 := by have := hx1.2; simpa [keyV] using this
      have h3 : cmpV k (f y) = 0 := by simpa [keyV] using hk
      rw [← cmpV_left h3, h2] at h1
      omega
    rw [hB]; simp
theorem SameF.mem {L M : List α} (h : SameF f L M) {x : α} (hx : x ∈ M) : x ∈ L := by
  have : x ∈ M.filter (fun y => keyV (f x) (f y)) := List.mem_filter.2 ⟨hx, by simp [keyV, cmpV_self]⟩
  rw [h] at this
  exact (List.mem_filter.1 this).1
theorem len_split (p : α → Bool) : ∀ L : List α, L.length = (L.filter p).length + (L.filter fun y => !p y).length := by
  intro L
  induction L with
  | nil => rfl
  | cons a L ih =>
    rw [List.filter_cons, List.filter_cons]
    cases p a <;> simp [ih] <;> omega
theorem SameF.length : ∀ {L M : List α}, SameF f L M → L.length = M.length := by
  intro L
  induction h : L.length using Nat.strongRecOn generalizing L with
  | _ n ih =>
    intro M hs
    cases L with
    | nil =>
      cases M with
      | nil => simp at h; simp [← h]
      | cons y M => exact absurd (hs.mem (List.mem_cons_self ..)) (by simp)
    | cons x L =>
      subst h
      let p : α → Bool := fun y => keyV (f x) (f y)
      have e1 := len_split p (x :: L)
      have e2 := len_split p M
      have hp : (M.filter p).length = ((x :: L).filter p).length := by rw [hs (f x)]
      have hx : 0 < ((x :: L).filter p).length := by
        rw [List.filter_cons, if_pos (by simp [p, keyV, cmpV_self])]; simp
      have hn := ih ((x :: L).filter (fun y => !p y)).length (by omega) (L := (x :: L).filter (fun y => !p y)) rfl (M := M.filter (fun y => !p y)) (fun k => by
        rw [List.filter_filter, List.filter_filter]
        have := congrArg (List.filter (fun y => !p y)) (hs k)
        rw [List.filter_filter, List.filter_filter] at this
        simpa [Bool.and_comm] using this)
      omega
theorem SortedF.app {L M : List α} (h : SortedF f L) (g : SortedF f M) (hc : ∀ x ∈ L, ∀ y ∈ M, cmpV (f x) (f y) ≤ 0) : SortedF f (L ++ M) := List.pairwise_append.2 ⟨h, g, hc⟩
theorem SortedF.left {L M : List α} (h : SortedF f (L ++ M)) : SortedF f L := (List.pairwise_append.1 h).1
theorem SortedF.right {L M : List α} (h : SortedF f (L ++ M)) : SortedF f M := (List.pairwise_append.1 h).2.1
theorem SortedF.cross {L M : List α} (h : SortedF f (L ++ M)) : ∀ x ∈ L, ∀ y ∈ M, cmpV (f x) (f y) ≤ 0 := (List.pairwise_append.1 h).2.2
/-- What both halves come to. -/
theorem merge_two {A1 A2 B1 B2 L R : List α} (hA : SortedF f (A1 ++ A2)) (hB : SortedF f (B1 ++ B2)) (h1 : ∀ y ∈ B1, ∀ x ∈ A2, cmpV (f y) (f x) < 0) (h2 : ∀ x ∈ A1, ∀ y ∈ B2, cmpV (f x) (f y) ≤ 0)
    (hL : SortedF f L) (hL2 : SameF f (A1 ++ B1) L) (hR : SortedF f R) (hR2 : SameF f (A2 ++ B2) R) : SortedF f (L ++ R) ∧ SameF f ((A1 ++ A2) ++ (B1 ++ B2)) (L ++ R) := by
  constructor
  · refine hL.app hR fun x hx y hy => ?_
    rcases List.mem_append.1 (hL2.mem hx) with a | a <;> rcases List.mem_append.1 (hR2.mem hy) with b | b
    · exact hA.cross x a y b
    · exact h2 x a y b
    · exact Int.le_of_lt (h1 x a y b)
    · exact hB.cross x a y b
  · have e : (A1 ++ A2) ++ (B1 ++ B2) = A1 ++ ((A2 ++ B1) ++ B2) := by simp
    have e' : (A1 ++ B1) ++ (A2 ++ B2) = A1 ++ ((B1 ++ A2) ++ B2) := by simp
    have s1 : SameF f ((A1 ++ A2) ++ (B1 ++ B2)) ((A1 ++ B1) ++ (A2 ++ B2)) := by
      rw [e, e']
      exact (SameF.refl A1).app ((SameF.swap h1).app (SameF.refl B2))
    exact s1.trans (hL2.app hR2)
/-- The first goes to its place. -/
theorem put_first {x : α} {B1 B2 : List α} (hB : SortedF f (B1 ++ B2)) (h1 : ∀ y ∈ B1, cmpV (f y) (f x) < 0) (h2 : ∀ y ∈ B2, cmpV (f x) (f y) ≤ 0) : SortedF f (B1 ++ x :: B2) ∧ SameF f (x :: (B1 ++ B2)) (B1 ++ x :: B2) := by
  have hh := merge_two (A1 := []) (A2 := [x]) (B1 := B1) (B2 := B2) (L := B1) (R := x :: B2) (by simp [SortedF]) hB (fun y hy z hz => by rw [List.mem_singleton.1 hz]; exact h1 y hy) (fun z hz => by cases hz) hB.left (SameF.refl _)
    (List.pairwise_cons.2 ⟨h2, hB.right⟩) (SameF.refl _)
  exact hh
/-- The last goes to its place. -/
theorem put_last {y : α} {A1 A2 : List α} (hA : SortedF f (A1 ++ A2)) (h1 : ∀ x ∈ A1, cmpV (f x) (f y) ≤ 0) (h2 : ∀ x ∈ A2, cmpV (f y) (f x) < 0) : SortedF f (A1 ++ y :: A2) ∧ SameF f ((A1 ++ A2) ++ [y]) (A1 ++ y :: A2) := by
  constructor
  · refine hA.left.app (List.pairwise_cons.2 ⟨fun x hx => Int.le_of_lt (h2 x hx), hA.right⟩) fun x hx z hz => ?_
    rcases List.mem_cons.1 hz with rfl | hz
    · exact h1 x hx
    · exact hA.cross x hx z hz
  · rw [List.append_assoc]
    exact (SameF.refl A1).app (SameF.swap fun z hz x hx => by rw [List.mem_singleton.1 hz]; exact h2 x hx)
end
section
open Go.Sort
variable {α : Type} [Inhabited α]
theorem at_list {d : Array α} {A B : List α} {x : α} (h : d.toList = A ++ x :: B) {i : Nat} (hi : A.length = i) : d[i]! = x := by
  have hl : d.size = d.toList.length := by simp
  have hs : i < d.size := by rw [hl, h]; simp; omega
  rw [getElem!_pos _ i hs, ← Array.getElem_toList]
  simp only [h]
  subst hi
  simp
theorem swp_at (d : Array α) (i j k : Nat) (hi : i < d.size) (hj : j < d.size) : (swp d i j)[k]? = if k = j then some d[i]! else if k = i then some d[j]! else d[k]? := by
  unfold swp
  rw [Array.getElem?_setIfInBounds, Array.getElem?_setIfInBounds]
  by_cases e1 : j = k
  · subst e1; simp [hj]
  · rw [if_neg e1, if_neg (Ne.symm e1)]
    by_cases e2 : i = k
    · subst e2; simp [hi]
    · rw [if_neg e2, if_neg (Ne.symm e2)]
theorem swp_lists {d : Array α} {A B C : List α} {x y : α} (h : d.toList = A ++ x :: (B ++ y :: C)) {i j : Nat} (hi : A.length = i) (hj : i + 1 + B.length = j) : (swp d i j).toList = A ++ y :: (B ++ x :: C) ∧ (swp d j i).toList = A ++ y :: (B ++ x :: C) ∧ i < d.size ∧ j < d.size := by
  have hl : d.size = d.toList.length := by simp
  have hjs : j < d.size := by rw [hl, h]; simp; omega
  have his : i < d.size := by omega
  have h' : d.toList = (A ++ x :: B) ++ y :: C := by rw [h]; simp
  have vi := at_list h hi
  have vj := at_list h' (show (A ++ x :: B).length = j by simp; omega)
  have main : ∀ k, (if k = j then some d[i]! else if k = i then some d[j]! else d[k]?) = (A ++ y :: (B ++ x :: C))[k]? := by
    intro k
    rw [vi, vj]
    subst hi
    rcases Nat.lt_trichotomy k A.length with hk | hk | hk
    · rw [if_neg (by omega), if_neg (by omega), List.getElem?_append_left hk, ← Array.getElem?_toList, h, List.getElem?_append_left hk]
    · subst hk
      rw [if_neg (by omega), if_pos rfl]; simp
    · obtain ⟨q, rfl⟩ : ∃ q, k = A.length + (q + 1) := ⟨k - A.length - 1, by omega⟩
      rw [if_neg (show ¬ (A.length + (q + 1) = A.length) by omega), ← Array.getElem?_toList, h, List.getElem?_append_right (by omega), List.getElem?_append_right (by omega), Nat.add_sub_cancel_left, List.getElem?_cons_succ, List.getElem?_cons_succ]
      rcases Nat.lt_trichotomy q B.length with hq | hq | hq
      · rw [if_neg (by omega), List.getElem?_append_left hq, List.getElem?_append_left hq]
      · subst hq; rw [if_pos (by omega)]; simp
      · obtain ⟨r, rfl⟩ : ∃ r, q = B.length + (r + 1) := ⟨q - B.length - 1, by omega⟩
        rw [if_neg (by omega), List.getElem?_append_right (by omega), List.getElem?_append_right (by omega), Nat.add_sub_cancel_left, List.getElem?_cons_succ, List.getElem?_cons_succ]
  refine ⟨?_, ?_, his, hjs⟩
  · apply List.ext_getElem?
    intro k
    rw [Array.getElem?_toList, swp_at d i j k his hjs, main k]
  · apply List.ext_getElem?
    intro k
    rw [Array.getElem?_toList, swp_at d j i k hjs his, ← main k]
    by_cases e1 : k = j
    · subst e1; rw [if_pos rfl, if_neg (by omega), if_pos rfl]
    · rw [if_neg e1, if_neg e1]
/-- A step of an exchange of two stretches. -/
theorem range_step {d : Array α} {P X M Y S : List α} {k m a b : Nat} (h : d.toList = P ++ (Y.take k ++ (X.drop k ++ (M ++ (X.take k ++ (Y.drop k ++ S)))))) (hX : X.length = m) (hY : Y.length = m) (hk : k < m) (hP : P.length = a) (hb : a + m + M.length = b) :
    (swp d (a + k) (b + k)).toList = P ++ (Y.take (k + 1) ++ (X.drop (k + 1) ++ (M ++ (X.take (k + 1) ++ (Y.drop (k + 1) ++ S))))) ∧ a + k < d.size ∧ b + k < d.size := by
  have hx : X.drop k = X[k]'(by omega) :: X.drop (k + 1) := List.drop_eq_getElem_cons (by omega)
  have hy : Y.drop k = Y[k]'(by omega) :: Y.drop (k + 1) := List.drop_eq_getElem_cons (by omega)
  have tx : X.take (k + 1) = X.take k ++ [X[k]'(by omega)] := List.take_succ_eq_append_getElem (by omega)
  have ty : Y.take (k + 1) = Y.take k ++ [Y[k]'(by omega)] := List.take_succ_eq_append_getElem (by omega)
  rw [hx, hy] at h
  have h' : d.toList = (P ++ Y.take k) ++ X[k]'(by omega) :: ((X.drop (k + 1) ++ (M ++ X.take k)) ++ Y[k]'(by omega) :: (Y.drop (k + 1) ++ S)) := by rw [h]; simp only [List.append_assoc, List.cons_append]
  obtain ⟨g, _, g2, g3⟩ := swp_lists h' (i := a + k) (j := b + k) (by simp; omega) (by simp; omega)
  refine ⟨?_, g2, g3⟩
  rw [g, tx, ty]; simp only [List.append_assoc, List.cons_append, List.nil_append]
end
end Go.Proofs.YtmmeekmiildliaaGreatDoor
