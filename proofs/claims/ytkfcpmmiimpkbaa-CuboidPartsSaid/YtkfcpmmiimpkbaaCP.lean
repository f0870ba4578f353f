/- Two parts of a list, each in a cuboid: the mathematics of CuboidParts. -/
import Derived.Test.YtkfcpmmiimpkbaaCY
namespace Go.Proofs.Ytkfcpmmiimpkbaa
open Go.RowKit Go.Shelf
set_option linter.unusedSimpArgs false
set_option linter.unusedVariables false
theorem flr_side {t g a : Int} (hg : 1 ≤ g) : flr t g < g * a ↔ t < g * a := by
  have hb := flr_bd (t := t) hg
  constructor
  · intro h
    have e : flr t g = g * (t / g) := by unfold flr; have := Int.mul_ediv_add_emod t g; omega
    rw [e] at h hb
    have h1 : t / g < a := Int.lt_of_mul_lt_mul_left h (by omega)
    have : g * (t / g + 1) ≤ g * a := Int.mul_le_mul_of_nonneg_left (by omega) (by omega)
    rw [Int.mul_add] at this
    omega
  · intro h; omega
theorem cmpV_time {a b : RV} (h : a.t < b.t) : cmpV a b < 0 := by
  unfold cmpV cmpK cmpI
  have h2 : ¬ b.t < a.t := by omega
  simp [h, h2]
theorem keyV_time {k a : RV} (h : keyV k a = true) : k.t = a.t := (cmpV_zero.1 (keyV_true.1 h)).2
/-- All of the first are earlier than all of the second. -/
def Apart (b : Int) (K1 K2 : List RV) : Prop := (∀ a ∈ K1, a.t < b) ∧ ∀ a ∈ K2, b ≤ a.t
theorem Apart.one {b : Int} {K1 K2 : List RV} (h : Apart b K1 K2) (k : RV) : (K2.filter (keyV k) = [] ∧ (K1 ++ K2).filter (keyV k) = K1.filter (keyV k)) ∨ (K1.filter (keyV k) = [] ∧ (K1 ++ K2).filter (keyV k) = K2.filter (keyV k)) := by
  rw [List.filter_append]
  by_cases hk : k.t < b
  · left
    have e : K2.filter (keyV k) = [] := List.filter_eq_nil_iff.2 fun a ha e => by
      have h1 := keyV_time e; have h2 := h.2 a ha; omega
    rw [e, List.append_nil]; exact ⟨rfl, rfl⟩
  · right
    have e : K1.filter (keyV k) = [] := List.filter_eq_nil_iff.2 fun a ha e => by
      have h1 := keyV_time e; have h2 := h.1 a ha; omega
    rw [e, List.nil_append]; exact ⟨rfl, rfl⟩
theorem sorts_parts {b : Int} {J J1 J2 K1 K2 : List RV} (h1 : SortsTo J1 K1) (h2 : SortsTo J2 K2) (ha : Apart b K1 K2) (e1 : J1 = J.filter fun r => decide (r.t < b)) (e2 : J2 = J.filter fun r => decide (b ≤ r.t)) : SortsTo J (K1 ++ K2) := by
  refine ⟨?_, fun k => ?_⟩
  · rw [List.pairwise_append]
    exact ⟨h1.sorted, h2.sorted, fun a hx b' hy => Int.le_of_lt (cmpV_time (by have := ha.1 a hx; have := ha.2 b' hy; omega))⟩
  · rw [List.filter_append, h1.same, h2.same, e1, e2, List.filter_filter, List.filter_filter]
    by_cases hk : k.t < b
    · have q1 : J.filter (fun a => keyV k a && decide (a.t < b)) = J.filter (keyV k) := List.filter_congr fun a _ => by
        cases e : keyV k a
        · rfl
        · have := keyV_time e; simp; omega
      have q2 : J.filter (fun a => keyV k a && decide (b ≤ a.t)) = [] := List.filter_eq_nil_iff.2 fun a _ e => by
        simp at e; have := keyV_time e.1; omega
      rw [q1, q2, List.append_nil]
    · have q1 : J.filter (fun a => keyV k a && decide (a.t < b)) = [] := List.filter_eq_nil_iff.2 fun a _ e => by
        simp at e; have := keyV_time e.1; omega
      have q2 : J.filter (fun a => keyV k a && decide (b ≤ a.t)) = J.filter (keyV k) := List.filter_congr fun a _ => by
        cases e : keyV k a
        · rfl
        · have := keyV_time e; simp; omega
      rw [q1, q2, List.nil_append]
theorem folds_parts {q : Nat} {b : Int} {K1 K2 O1 O2 O : List RV} {x1 x2 x : Int} (ha : Apart b K1 K2) (hs : (K1 ++ K2).Pairwise fun a b => cmpV a b ≤ 0) (hq : ∀ a ∈ K1 ++ K2, OkR q a) (h1 : foldL K1 = (O1, x1)) (h2 : foldL K2 = (O2, x2)) (h : foldL (K1 ++ K2) = (O, x)) :
    (x = 0 ↔ x1 = 0 ∧ x2 = 0) ∧ (x1 = 0 → x2 = 0 → O = O1 ++ O2) := by
  have hs' := List.pairwise_append.1 hs
  have f1 := foldL_all (q := q) K1.length K1 (Nat.le_refl _) hs'.1 (fun a h => hq a (List.mem_append_left _ h))
  have f2 := foldL_all (q := q) K2.length K2 (Nat.le_refl _) hs'.2.1 (fun a h => hq a (List.mem_append_right _ h))
  have f := foldL_all (q := q) (K1 ++ K2).length (K1 ++ K2) (Nat.le_refl _) hs hq
  rw [h1] at f1; rw [h2] at f2; rw [h] at f
  simp only at f1 f2 f
  have one := ha.one
  rcases f1 with ⟨rfl, g1, m1⟩ | ⟨rfl, rfl, k, hk⟩
  · rcases f2 with ⟨rfl, g2, m2⟩ | ⟨rfl, rfl, k, hk⟩
    · have G : FoldOf (K1 ++ K2) (O1 ++ O2) := by
        have hO1 : ∀ y ∈ O1, y.t < b := fun y hy => by obtain ⟨a, h3, e⟩ := m1 y hy; rw [(cmpV_zero.1 e).2]; exact ha.1 a h3
        have hO2 : ∀ y ∈ O2, b ≤ y.t := fun y hy => by obtain ⟨a, h3, e⟩ := m2 y hy; rw [(cmpV_zero.1 e).2]; exact ha.2 a h3
        refine ⟨List.pairwise_append.2 ⟨g1.strict, g2.strict, fun a hx c hy => cmpV_time (by have := hO1 a hx; have := hO2 c hy; omega)⟩, fun k => ?_, fun k => ?_⟩
        · have h3 := g1.same k
          have h4 := g2.same k
          rw [List.filter_append]
          rcases one k with ⟨e1, e2⟩ | ⟨e1, e2⟩
          · rw [e1] at h4; rw [e2, h3, h4]; simp [grp]
          · rw [e1] at h3; rw [e2, h3, h4]; simp [grp]
        · rcases one k with ⟨e1, e2⟩ | ⟨e1, e2⟩
          · rw [e2]; exact g1.ok k
          · rw [e2]; exact g2.ok k
      rcases f with ⟨rfl, g, _⟩ | ⟨_, _, k, hk⟩
      · exact ⟨by simp, fun _ _ => g.uniq G⟩
      · exact absurd (G.ok k) hk
    · rcases f with ⟨rfl, g, _⟩ | ⟨rfl, _, _⟩
      · have := g.ok k
        rcases one k with ⟨e1, e2⟩ | ⟨e1, e2⟩
        · rw [e1] at hk; exact absurd rfl hk
        · rw [e2] at this; exact absurd this hk
      · exact ⟨by simp, fun _ h => by cases h⟩
  · rcases f with ⟨rfl, g, _⟩ | ⟨rfl, _, _⟩
    · have := g.ok k
      rcases one k with ⟨e1, e2⟩ | ⟨e1, e2⟩
      · rw [e2] at this; exact absurd this hk
      · rw [e1] at hk; exact absurd rfl hk
    · exact ⟨by simp, fun h => by cases h⟩
end Go.Proofs.Ytkfcpmmiimpkbaa
