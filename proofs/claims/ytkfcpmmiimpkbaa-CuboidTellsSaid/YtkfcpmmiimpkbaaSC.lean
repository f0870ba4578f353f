/- symMergeCmpFunc: the mathematics of its search. -/
import Derived.Test.YtkfcpmmiimpkbaaSA
namespace Go.Proofs.Ytkfcpmmiimpkbaa
open Go.RowKit
set_option linter.unusedSimpArgs false
set_option linter.unusedVariables false
section
variable {α : Type} {f : α → RV}
theorem SortedF.le {L : List α} (h : SortedF f L) {i j : Nat} (hj : j < L.length) (hij : i ≤ j) : cmpV (f (L[i]'(by omega))) (f L[j]) ≤ 0 := by
  rcases Nat.lt_or_eq_of_le hij with h1 | rfl
  · exact List.pairwise_iff_getElem.1 h i j (by omega) hj h1
  · rw [cmpV_self]; exact Int.le_refl _
theorem mem_take' {L : List α} {t : Nat} {y : α} (h : y ∈ L.take t) : ∃ i, ∃ hi : i < L.length, i < t ∧ y = L[i] := by
  obtain ⟨i, hi, rfl⟩ := List.getElem_of_mem h
  rw [List.length_take] at hi
  exact ⟨i, by omega, by omega, by simp⟩
theorem mem_drop' {L : List α} {t : Nat} {y : α} (h : y ∈ L.drop t) : ∃ i, ∃ hi : i < L.length, t ≤ i ∧ y = L[i] := by
  obtain ⟨i, hi, rfl⟩ := List.getElem_of_mem h
  rw [List.length_drop] at hi
  exact ⟨t + i, by omega, by omega, by simp⟩
/-- Of a search for the first that is not below x: what lies ahead of t is below it, what lies from u on is not. -/
structure Lo (f : α → RV) (x : α) (B : List α) (t u : Nat) : Prop where
  tu : t ≤ u
  ub : u ≤ B.length
  lo : ∀ y ∈ B.take t, cmpV (f y) (f x) < 0
  hi : ∀ y ∈ B.drop u, cmpV (f x) (f y) ≤ 0
theorem Lo.start (x : α) (B : List α) : Lo f x B 0 B.length := ⟨Nat.zero_le _, Nat.le_refl _, fun y h => by simp at h, fun y h => by simp at h⟩
theorem Lo.up {x : α} {B : List α} {t u v : Nat} (h : Lo f x B t u) (hs : SortedF f B) (h1 : t ≤ v) (h2 : v < u) (hc : cmpV (f (B[v]'(by have := h.ub; omega))) (f x) < 0) : Lo f x B (v + 1) u := by
  have hub := h.ub
  refine ⟨by omega, hub, fun y hy => ?_, h.hi⟩
  obtain ⟨i, hi, hit, rfl⟩ := mem_take' hy
  exact cmpV_le_lt (hs.le (by omega) (show i ≤ v by omega)) hc
theorem Lo.down {x : α} {B : List α} {t u v : Nat} (h : Lo f x B t u) (hs : SortedF f B) (h1 : t ≤ v) (h2 : v < u) (hc : ¬ cmpV (f (B[v]'(by have := h.ub; omega))) (f x) < 0) : Lo f x B t v := by
  have hub := h.ub
  refine ⟨h1, by omega, h.lo, fun y hy => ?_⟩
  obtain ⟨i, hi, hit, rfl⟩ := mem_drop' hy
  exact cmpV_le_tr (cmpV_flip hc) (hs.le hi hit)
/-- Of a search for the first that is above y. -/
structure Hi (f : α → RV) (y : α) (A : List α) (t u : Nat) : Prop where
  tu : t ≤ u
  ub : u ≤ A.length
  lo : ∀ x ∈ A.take t, cmpV (f x) (f y) ≤ 0
  hi : ∀ x ∈ A.drop u, cmpV (f y) (f x) < 0
theorem Hi.start (y : α) (A : List α) : Hi f y A 0 A.length := ⟨Nat.zero_le _, Nat.le_refl _, fun y h => by simp at h, fun y h => by simp at h⟩
theorem Hi.up {y : α} {A : List α} {t u v : Nat} (h : Hi f y A t u) (hs : SortedF f A) (h1 : t ≤ v) (h2 : v < u) (hc : ¬ cmpV (f y) (f (A[v]'(by have := h.ub; omega))) < 0) : Hi f y A (v + 1) u := by
  have hub := h.ub
  refine ⟨by omega, hub, fun x hx => ?_, h.hi⟩
  obtain ⟨i, hi, hit, rfl⟩ := mem_take' hx
  exact cmpV_le_tr (hs.le (by omega) (show i ≤ v by omega)) (cmpV_flip hc)
theorem Hi.down {y : α} {A : List α} {t u v : Nat} (h : Hi f y A t u) (hs : SortedF f A) (h1 : t ≤ v) (h2 : v < u) (hc : cmpV (f y) (f (A[v]'(by have := h.ub; omega))) < 0) : Hi f y A t v := by
  have hub := h.ub
  refine ⟨h1, by omega, h.lo, fun x hx => ?_⟩
  obtain ⟨i, hi, hit, rfl⟩ := mem_drop' hx
  exact cmpV_lt_le hc (hs.le hi hit)
/-- Of the symmetric search: z is the list, the stretches [a, m) and [m, b). -/
structure Sy (f : α → RV) (z : Nat → α) (s0 r0 p s r : Nat) : Prop where
  ge : s0 ≤ s
  sr : s ≤ r
  le : r ≤ r0
  lo : s0 < s → ¬ cmpV (f (z (p - (s - 1)))) (f (z (s - 1))) < 0
  hi : r < r0 → cmpV (f (z (p - r))) (f (z r)) < 0
theorem Sy.start (z : Nat → α) {s0 r0 p : Nat} (h : s0 ≤ r0) : Sy f z s0 r0 p s0 r0 := ⟨Nat.le_refl _, h, Nat.le_refl _, fun h => by omega, fun h => by omega⟩
theorem Sy.up {z : Nat → α} {s0 r0 p s r c : Nat} (h : Sy f z s0 r0 p s r) (h1 : s ≤ c) (h2 : c < r) (hc : ¬ cmpV (f (z (p - c))) (f (z c)) < 0) : Sy f z s0 r0 p (c + 1) r :=
  ⟨by have := h.ge; omega, by omega, h.le, fun _ => by simpa using hc, h.hi⟩
theorem Sy.down {z : Nat → α} {s0 r0 p s r c : Nat} (h : Sy f z s0 r0 p s r) (h1 : s ≤ c) (h2 : c < r) (hc : cmpV (f (z (p - c))) (f (z c)) < 0) : Sy f z s0 r0 p s c :=
  ⟨h.ge, h1, by have := h.le; omega, h.lo, fun _ => hc⟩
/-- What the symmetric search has found. -/
theorem Sy.found {z : Nat → α} {A B : List α} {a m b mid s0 r0 s : Nat} (h : Sy f z s0 r0 (mid + m - 1) s s) (hA : SortedF f A) (hB : SortedF f B) (hal : a + A.length = m) (hbl : m + B.length = b) (hmid : mid = (a + b) / 2) (h1 : 1 ≤ A.length) (h2 : 1 ≤ B.length)
    (hs0 : s0 = if mid < m then mid + m - b else a) (hr0 : r0 = if mid < m then mid else m)
    (hzA : ∀ i (h : i < A.length), z (a + i) = A[i]) (hzB : ∀ i (h : i < B.length), z (m + i) = B[i]) :
    a ≤ s ∧ s ≤ m ∧ m ≤ mid + m - s ∧ mid + m - s ≤ b ∧ s ≤ mid + m ∧
    (∀ y ∈ B.take (mid - s), ∀ x ∈ A.drop (s - a), cmpV (f y) (f x) < 0) ∧ (∀ x ∈ A.take (s - a), ∀ y ∈ B.drop (mid - s), cmpV (f x) (f y) ≤ 0) := by
  have q1 := h.ge
  have q2 := h.le
  have hms : s ≤ mid := by rw [hr0] at q2; split at q2 <;> omega
  have hsm : s ≤ m := by rw [hr0] at q2; split at q2 <;> omega
  have has : a ≤ s := by rw [hs0] at q1; split at q1 <;> omega
  have hsb : mid + m ≤ b + s := by rw [hs0] at q1; split at q1 <;> omega
  refine ⟨has, hsm, by omega, by omega, by omega, fun y hy x hx => ?_, fun x hx y hy => ?_⟩
  · obtain ⟨i, hi, hit, rfl⟩ := mem_take' hy
    obtain ⟨j, hj, hjt, rfl⟩ := mem_drop' hx
    have hlt : s < r0 := by rw [hr0]; split <;> omega
    have hc := h.hi hlt
    have e1 : mid + m - 1 - s = m + (mid - s - 1) := by omega
    have e2 : s = a + (s - a) := by omega
    rw [e1, hzB _ (by omega)] at hc
    have e3 := hzA (s - a) (by omega)
    rw [← e2] at e3
    rw [e3] at hc
    exact cmpV_le_lt (hB.le (by omega) (show i ≤ mid - s - 1 by omega)) (cmpV_lt_le hc (hA.le hj hjt))
  · obtain ⟨i, hi, hit, rfl⟩ := mem_take' hx
    obtain ⟨j, hj, hjt, rfl⟩ := mem_drop' hy
    have hlt : s0 < s := by rw [hs0]; split <;> omega
    have hc := h.lo hlt
    have e1 : mid + m - 1 - (s - 1) = m + (mid - s) := by omega
    have e2 : s - 1 = a + (s - 1 - a) := by omega
    rw [e1, hzB _ (by omega)] at hc
    have e3 := hzA (s - 1 - a) (by omega)
    rw [← e2] at e3
    rw [e3] at hc
    exact cmpV_le_tr (hA.le (by omega) (show i ≤ s - 1 - a by omega)) (cmpV_le_tr (cmpV_flip hc) (hB.le hj hjt))
end
section
open Go.Sort
variable {α : Type} [Inhabited α]
theorem at_app {d : Array α} {P A S : List α} {a : Nat} (h : d.toList = P ++ (A ++ S)) (hP : P.length = a) (i : Nat) (hi : i < A.length) : d[a + i]! = A[i] := by
  have e : A ++ S = A.take i ++ A[i] :: (A.drop (i + 1) ++ S) := by
    have e2 : A = A.take i ++ A[i] :: A.drop (i + 1) := by
      rw [← List.drop_eq_getElem_cons hi]; exact (List.take_append_drop i A).symm
    have e3 := congrArg (· ++ S) e2
    simpa only [List.append_assoc, List.cons_append] using e3
  rw [e, ← List.append_assoc] at h
  exact at_list h (by simp; omega)
/-- The first, a step on. -/
theorem first_step {d : Array α} {P B S : List α} {x : α} {r a : Nat} (h : d.toList = P ++ (B.take r ++ x :: (B.drop r ++ S))) (hr : r < B.length) (hP : P.length = a) : (swp d (a + r) (a + r + 1)).toList = P ++ (B.take (r + 1) ++ x :: (B.drop (r + 1) ++ S)) ∧ a + r < d.size ∧ a + r + 1 < d.size := by
  have hb : B.drop r = B[r] :: B.drop (r + 1) := List.drop_eq_getElem_cons hr
  have tb : B.take (r + 1) = B.take r ++ [B[r]] := List.take_succ_eq_append_getElem hr
  rw [hb] at h
  have h' : d.toList = (P ++ B.take r) ++ x :: ([] ++ B[r] :: (B.drop (r + 1) ++ S)) := by rw [h]; simp only [List.append_assoc, List.cons_append, List.nil_append]
  obtain ⟨g, _, g2, g3⟩ := swp_lists h' (i := a + r) (j := a + r + 1) (by simp; omega) (by simp)
  refine ⟨?_, g2, g3⟩
  rw [g, tb]; simp only [List.append_assoc, List.cons_append, List.nil_append]
/-- The last, a step back. -/
theorem last_step {d : Array α} {P A S : List α} {y : α} {r a : Nat} (h : d.toList = P ++ (A.take (r + 1) ++ y :: (A.drop (r + 1) ++ S))) (hr : r < A.length) (hP : P.length = a) : (swp d (a + r + 1) (a + r)).toList = P ++ (A.take r ++ y :: (A.drop r ++ S)) ∧ a + r < d.size ∧ a + r + 1 < d.size := by
  have ha : A.drop r = A[r] :: A.drop (r + 1) := List.drop_eq_getElem_cons hr
  have ta : A.take (r + 1) = A.take r ++ [A[r]] := List.take_succ_eq_append_getElem hr
  rw [ta] at h
  have h' : d.toList = (P ++ A.take r) ++ A[r] :: ([] ++ y :: (A.drop (r + 1) ++ S)) := by rw [h]; simp only [List.append_assoc, List.cons_append, List.nil_append]
  obtain ⟨_, g, g2, g3⟩ := swp_lists h' (i := a + r) (j := a + r + 1) (by simp; omega) (by simp)
  refine ⟨?_, g2, g3⟩
  rw [g, ha]; simp only [List.append_assoc, List.cons_append, List.nil_append]
end
end Go.Proofs.Ytkfcpmmiimpkbaa
