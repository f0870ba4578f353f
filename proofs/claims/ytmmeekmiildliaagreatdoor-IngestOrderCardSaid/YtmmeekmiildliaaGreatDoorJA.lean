/- The mathematics of events that come one by one. -/
import Derived.Test.YtmmeekmiildliaaGreatDoorIK
namespace Go.Proofs.YtmmeekmiildliaaGreatDoor
open Go.RowKit Go.Maps
set_option linter.unusedSimpArgs false
set_option linter.unusedVariables false
theorem takeWhile_self {α : Type} (p : α → Bool) : ∀ L : List α, (∀ x ∈ L, p x = true) → L.takeWhile p = L ∧ L.dropWhile p = [] := by
  intro L
  induction L with
  | nil => intro _; exact ⟨rfl, rfl⟩
  | cons a L ih =>
    intro h
    have ha := h a List.mem_cons_self
    have hi := ih fun x hx => h x (List.mem_cons_of_mem _ hx)
    rw [List.takeWhile_cons, List.dropWhile_cons, if_pos ha, if_pos ha, hi.1]
    exact ⟨rfl, hi.2⟩
theorem insK_end {V : List RV} {x : RV} (h : ∀ a ∈ V, cmpV a x < 0) : insK V x = (V ++ [x], 0) := by
  obtain ⟨h1, h2⟩ := takeWhile_self (below x) V fun a ha => by simp [below, h a ha]
  unfold insK
  rw [h1, h2]
theorem refF_strict : ∀ (L O : List RV), Strict (O ++ L) → refF O L = (O ++ L, 0) := by
  intro L
  induction L with
  | nil => intro O _; rw [refF, List.append_nil]
  | cons x L ih =>
    intro O h
    have h1 : ∀ a ∈ O, cmpV a x < 0 := fun a ha => by
      unfold Strict at h
      rw [List.pairwise_append] at h
      exact h.2.2 a ha x List.mem_cons_self
    have e : O ++ x :: L = (O ++ [x]) ++ L := by simp
    rw [refF, insK_end h1, if_pos rfl, e]
    exact ih _ (by rw [← e]; exact h)
theorem refF_app : ∀ (L M O : List RV), (refF O L).2 = 0 → refF O (L ++ M) = refF (refF O L).1 M := by
  intro L
  induction L with
  | nil => intro M O _; rfl
  | cons x L ih =>
    intro M O h
    rw [refF] at h
    by_cases h0 : (insK O x).2 = 0
    · rw [if_pos h0] at h
      rw [List.cons_append, refF, refF, if_pos h0, if_pos h0]
      exact ih _ _ h
    · rw [if_neg h0] at h; exact absurd h h0
theorem insK_err {V : List RV} {x : RV} (h : (insK V x).2 ≠ 0) : (insK V x).1 = [] := by
  unfold insK at h ⊢
  split
  · rename_i hD; rw [hD] at h; exact absurd rfl h
  · rename_i r R hD
    rw [hD] at h
    simp only at h
    split
    · rename_i h1
      rw [if_pos h1] at h
      split
      · rename_i h2; rw [if_pos h2] at h; exact absurd rfl h
      · rfl
    · rename_i h1
      rw [if_neg h1] at h; exact absurd rfl h
theorem refF_more {V : List RV} {x : RV} (h : Strict V) : refF [] (V ++ [x]) = insK V x := by
  have h0 := refF_strict V [] (by simpa using h)
  rw [refF_app V [x] [] (by rw [h0]), h0, List.nil_append]
  show refF V [x] = insK V x
  rw [refF]
  by_cases e : (insK V x).2 = 0
  · rw [if_pos e, refF, ← e]
  · rw [if_neg e, ← insK_err e]
/-- How many events are in rows. -/
def sumC (V : List RV) : Int := (V.map RV.count).sum
theorem sumC_nil : sumC [] = 0 := rfl
theorem sumC_cons (a : RV) (V : List RV) : sumC (a :: V) = a.count + sumC V := by simp [sumC]
theorem sumC_app (U V : List RV) : sumC (U ++ V) = sumC U + sumC V := by simp [sumC, List.sum_append]
theorem joinR_sum {a b : RV} (h : (joinR a b).2 = 0) : (joinR a b).1.count = a.count + b.count := by
  unfold joinR at h ⊢
  split
  · rename_i h1
    rw [if_pos h1] at h
    split
    · rename_i h2; rw [if_pos h2] at h; exact absurd h (by decide)
    · rename_i h2
      rw [if_neg h2] at h
      split
      · rfl
      · rename_i h3; rw [if_neg h3] at h; exact absurd h h3
  · rename_i h1; rw [if_neg h1] at h; exact absurd h (by decide)
theorem insK_sumC {V : List RV} {x : RV} (h : (insK V x).2 = 0) : sumC (insK V x).1 = sumC V + x.count := by
  have hsplit : V.takeWhile (below x) ++ V.dropWhile (below x) = V := List.takeWhile_append_dropWhile
  unfold insK at h ⊢
  split
  · rename_i hD
    rw [hD, List.append_nil] at hsplit
    show sumC (V.takeWhile (below x) ++ [x]) = _
    rw [sumC_app, hsplit, sumC_cons, sumC_nil, Int.add_zero]
  · rename_i r R hD
    rw [hD] at h hsplit
    simp only at h
    have e : sumC V = sumC (V.takeWhile (below x)) + (r.count + sumC R) := by
      conv => lhs; rw [← hsplit]
      rw [sumC_app, sumC_cons]
    split
    · rename_i h1
      rw [if_pos h1] at h
      split
      · rename_i h2
        show sumC (V.takeWhile (below x) ++ (joinR r x).1 :: R) = _
        rw [sumC_app, sumC_cons, joinR_sum h2, e]; omega
      · rename_i h2; rw [if_neg h2] at h; exact absurd h h2
    · rename_i h1
      show sumC (V.takeWhile (below x) ++ x :: r :: R) = _
      rw [sumC_app, sumC_cons, sumC_cons, e]; omega
theorem addR_strict {d q : Nat} {V : List RV} {v : Int} {x : RV} (h : Strict V) (hO : ∀ a ∈ V, OkR q a) (hx : v = 0 → OkR q x) : Strict (addR V v x).2 ∧ ∀ a ∈ (addR V v x).2, OkR q a := by
  unfold addR
  by_cases h0 : v = 0
  · rw [if_pos h0]
    by_cases h1 : (insK V x).2 = 0
    · rw [if_pos h1]; exact insK_strict h hO (hx h0) h1
    · rw [if_neg h1]; exact ⟨h, hO⟩
  · rw [if_neg h0]; exact ⟨h, hO⟩
theorem addR_sumC (V : List RV) (v : Int) (x : RV) (hc : x.count = 1) : sumC (addR V v x).2 = sumC V + (if (addR V v x).1 = 0 then 1 else 0) := by
  unfold addR
  by_cases h0 : v = 0
  · rw [if_pos h0]
    by_cases h1 : (insK V x).2 = 0
    · rw [if_pos h1, if_pos rfl, insK_sumC h1, hc]
    · rw [if_neg h1, if_neg h1, Int.add_zero]
  · rw [if_neg h0, if_neg h0, Int.add_zero]
end Go.Proofs.YtmmeekmiildliaaGreatDoor
