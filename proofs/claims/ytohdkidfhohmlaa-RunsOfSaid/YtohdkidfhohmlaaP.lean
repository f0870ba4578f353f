/- Sets as lists of stretches: what they have tells them apart; what is put behind one; what becomes of two. -/
import Derived.Test.YtohdkidfhohmlaaM
namespace Go.Proofs.Ytohdkidfhohmlaa
open Go.RowKit
set_option linter.unusedSimpArgs false
set_option linter.unusedVariables false
def lastE : Int → List (Int × Int) → Int
  | b, [] => b
  | _, p :: L => lastE p.2 L
theorem lastE_snoc : ∀ (M : List (Int × Int)) (b p z : Int), lastE b (M ++ [(p, z)]) = z := by
  intro M
  induction M with
  | nil => intro b p z; rfl
  | cons q M ih => intro b p z; exact ih q.2 p z
theorem right_app : ∀ (M N : List (Int × Int)) (b : Int), rightB b (M ++ N) = (rightB b M && rightB (lastE b M) N) := by
  intro M
  induction M with
  | nil => intro N b; simp [rightB, lastE]
  | cons q M ih =>
    intro N b
    by_cases h : q.1 ≤ b ∨ q.2 ≤ q.1 ∨ 65536 < q.2
    · rw [List.cons_append, right_bad h, right_bad h]; rfl
    · rw [List.cons_append, right_ok h, right_ok h, ih]; rfl
theorem right_one {b p z : Int} (h1 : b < p) (h2 : p < z) (h3 : z ≤ 65536) : rightB b [(p, z)] = true := by
  rw [right_ok (by show ¬ (p ≤ b ∨ z ≤ p ∨ 65536 < z); omega)]; rfl
theorem lastE_le : ∀ {L : List (Int × Int)} {b : Int}, rightB b L = true → b ≤ lastE b L ∧ (lastE b L ≤ 65536 ∨ lastE b L = b) := by
  intro L
  induction L with
  | nil => intro b _; exact ⟨Int.le_refl _, .inr rfl⟩
  | cons p L ih =>
    intro b h
    obtain ⟨h1, h2, h3, h4⟩ := right_inv h
    have := ih h4
    show b ≤ lastE p.2 L ∧ (lastE p.2 L ≤ 65536 ∨ lastE p.2 L = b)
    rcases this with ⟨h5, h6 | h6⟩
    · exact ⟨by omega, .inl h6⟩
    · exact ⟨by omega, .inl (by omega)⟩
theorem has_app (x : Int) : ∀ (M N : List (Int × Int)), hasB x (M ++ N) = (hasB x M || hasB x N) := by
  intro M
  induction M with
  | nil => intro N; simp [hasB]
  | cons q M ih =>
    intro N
    rw [List.cons_append, hasB, hasB]
    split
    · rfl
    · exact ih N
theorem has_one (x p z : Int) : hasB x [(p, z)] = decide (p ≤ x ∧ x < z) := by
  rw [hasB]
  by_cases h : p ≤ x ∧ x < z
  · rw [if_pos h, decide_eq_true h]
  · rw [if_neg h, decide_eq_false h]; rfl
theorem has_low : ∀ {L : List (Int × Int)} {b x : Int}, rightB b L = true → x ≤ b → hasB x L = false := by
  intro L
  induction L with
  | nil => intro b x _ _; rfl
  | cons p L ih =>
    intro b x h hx
    obtain ⟨h1, h2, h3, h4⟩ := right_inv h
    rw [hasB, if_neg (by omega)]
    exact ih h4 (by omega)
theorem has_high : ∀ {L : List (Int × Int)} {b x : Int}, rightB b L = true → lastE b L ≤ x → hasB x L = false := by
  intro L
  induction L with
  | nil => intro b x _ _; rfl
  | cons p L ih =>
    intro b x h hx
    obtain ⟨h1, h2, h3, h4⟩ := right_inv h
    have h5 : lastE p.2 L ≤ x := hx
    have := (lastE_le h4).1
    rw [hasB, if_neg (by omega)]
    exact ih h4 h5
theorem has_range {L : List (Int × Int)} {x : Int} (h : rightB (-1) L = true) (hx : hasB x L = true) : 0 ≤ x ∧ x < 65536 := by
  constructor
  · rcases Int.lt_or_le x 0 with h1 | h1
    · rw [has_low h (by omega)] at hx; cases hx
    · exact h1
  · rcases Int.lt_or_le x 65536 with h1 | h1
    · exact h1
    · rw [has_high h (by have := (lastE_le h).2; omega)] at hx; cases hx
theorem right_ext : ∀ {L M : List (Int × Int)} {b : Int}, rightB b L = true → rightB b M = true → (∀ x, hasB x L = hasB x M) → L = M := by
  intro L
  induction L with
  | nil =>
    intro M b h1 h2 h
    cases M with
    | nil => rfl
    | cons q M =>
      obtain ⟨a1, a2, a3, a4⟩ := right_inv h2
      have := h q.1
      rw [hasB, hasB, if_pos (by omega)] at this
      cases this
  | cons p L ih =>
    intro M b h1 h2 h
    obtain ⟨c1, c2, c3, c4⟩ := right_inv h1
    cases M with
    | nil =>
      have := h p.1
      rw [hasB, hasB, if_pos (by omega)] at this
      cases this
    | cons q M =>
      obtain ⟨a1, a2, a3, a4⟩ := right_inv h2
      have e1 : p.1 = q.1 := by
        rcases Int.lt_trichotomy p.1 q.1 with hlt | he | hlt
        · have := h p.1
          rw [hasB, hasB, if_pos (by omega), if_neg (by omega), has_low a4 (by omega)] at this
          cases this
        · exact he
        · have := h q.1
          rw [hasB, hasB, if_neg (by omega), if_pos (by omega), has_low c4 (by omega)] at this
          cases this
      have e2 : p.2 = q.2 := by
        rcases Int.lt_trichotomy p.2 q.2 with hlt | he | hlt
        · have := h p.2
          rw [hasB, hasB, if_neg (by omega), if_pos (by omega), has_low c4 (by omega)] at this
          cases this
        · exact he
        · have := h q.2
          rw [hasB, hasB, if_pos (by omega), if_neg (by omega), has_low a4 (by omega)] at this
          cases this
      have e3 : p = q := Prod.ext e1 e2
      subst e3
      rw [ih c4 a4 (fun x => ?_)]
      rcases Int.lt_or_le p.2 x with hx | hx
      · have := h x
        rw [hasB, hasB, if_neg (by omega), if_neg (by omega)] at this
        exact this
      · rw [has_low c4 hx, has_low a4 hx]
theorem right_length {L : List (Int × Int)} (h : rightB (-1) L = true) : L.length ≤ 65537 := by
  have h1 := listL_short h
  have h2 : ∀ {L : List (Int × Int)} {b : Int}, rightB b L = true → L.length ≤ (listL L).length := by
    intro L
    induction L with
    | nil => intro b _; exact Nat.le_refl _
    | cons p L ih =>
      intro b h
      obtain ⟨a1, a2, a3, a4⟩ := right_inv h
      have := ih a4
      rw [show p :: L = [p] ++ L from rfl, listL_app, List.length_append, List.length_append]
      have h5 : (listL [p]).length = (p.2 - p.1).toNat := by simp [listL, seqZ_length]
      rw [h5]
      simp only [List.length_cons, List.length_nil]
      omega
  have := h2 h
  omega
/-- What a put makes: joined to the last one, or behind it. -/
theorem putted {M : List (Int × Int)} {x y : Int} (hr : rightB (-1) M = true) (hx : lastE (-1) M ≤ x) (h0 : 0 ≤ x) (hxy : x < y) (hy : y ≤ 65536) :
    ∃ N, rightB (-1) N = true ∧ lastE (-1) N = y ∧ (∀ z, hasB z N = (hasB z M || decide (x ≤ z ∧ z < y))) ∧ N ≠ [] ∧
      ((M = [] ∧ N = [(x, y)]) ∨ (∃ M' p, M = M' ++ [(p, x)] ∧ N = M' ++ [(p, y)]) ∨ (∃ M' p z, M = M' ++ [(p, z)] ∧ z ≠ x ∧ N = M' ++ [(p, z)] ++ [(x, y)])) := by
  rcases List.eq_nil_or_concat M with rfl | ⟨M', q, rfl⟩
  · exact ⟨[(x, y)], right_one (by omega) hxy hy, rfl, fun z => by rw [has_one]; rfl, by simp, .inl ⟨rfl, rfl⟩⟩
  · obtain ⟨p, z⟩ := q
    simp only [List.concat_eq_append] at hr hx ⊢
    rw [lastE_snoc] at hx
    have hr' := hr
    rw [right_app, Bool.and_eq_true] at hr'
    obtain ⟨r1, r2⟩ := hr'
    obtain ⟨a1, a2, a3, _⟩ := right_inv r2
    have a1' : lastE (-1) M' < p := a1
    have a2' : p < z := a2
    by_cases he : z = x
    · subst he
      refine ⟨M' ++ [(p, y)], ?_, lastE_snoc _ _ _ _, fun w => ?_, by simp, .inr (.inl ⟨M', p, rfl, rfl⟩)⟩
      · rw [right_app, r1, right_one a1' (by omega) hy]; rfl
      · rw [has_app, has_app, has_one, has_one, Bool.or_assoc]
        congr 1
        rw [Bool.eq_iff_iff]; simp; omega
    · refine ⟨M' ++ [(p, z)] ++ [(x, y)], ?_, lastE_snoc _ _ _ _, fun w => by rw [has_app, has_one], by simp, .inr (.inr ⟨M', p, z, rfl, he, rfl⟩)⟩
      rw [right_app, hr, lastE_snoc, right_one (by omega) hxy hy]; rfl
/-- How many numbers from 0 on, below n, a set has. -/
def cnt (f : Int → Bool) : Nat → Int
  | 0 => 0
  | n + 1 => cnt f n + (if f n then 1 else 0)
theorem cnt_congr {f g : Int → Bool} : ∀ {n : Nat}, (∀ i : Nat, i < n → f i = g i) → cnt f n = cnt g n := by
  intro n
  induction n with
  | zero => intro _; rfl
  | succ n ih => intro h; rw [cnt, cnt, ih (fun i hi => h i (by omega)), h n (by omega)]
theorem rank_step {L : List (Int × Int)} : ∀ {b x : Int}, rightB b L = true → rankZ (x + 1) L = rankZ x L + (if hasB x L then 1 else 0) := by
  induction L with
  | nil => intro b x _; simp [rankZ, hasB]
  | cons p L ih =>
    intro b x h
    obtain ⟨h1, h2, h3, h4⟩ := right_inv h
    have hi := ih (x := x) h4
    rw [rankZ, rankZ, hasB, hi]
    by_cases hin : p.1 ≤ x ∧ x < p.2
    · rw [if_pos hin, has_low h4 (by omega), if_pos (show p.1 < x + 1 by omega)]
      rw [Int.min_eq_right (show x + 1 ≤ p.2 by omega)]
      simp
      split
      · rw [Int.min_eq_right (by omega)]; omega
      · omega
    · rw [if_neg hin]
      rcases Int.lt_or_le x p.1 with hx | hx
      · rw [if_neg (show ¬ p.1 < x + 1 by omega), if_neg (show ¬ p.1 < x by omega)]; omega
      · have hp2 : p.2 ≤ x := by omega
        by_cases hpx : p.1 < x
        · rw [if_pos (show p.1 < x + 1 by omega), if_pos hpx, Int.min_eq_left (show p.2 ≤ x + 1 by omega), Int.min_eq_left hp2]; omega
        · omega
theorem rank_cnt {L : List (Int × Int)} (h : rightB (-1) L = true) : ∀ n : Nat, rankZ n L = cnt (fun x => hasB x L) n := by
  intro n
  induction n with
  | zero => exact rank_zero L (-1) 0 h (by omega)
  | succ n ih => rw [cnt, ← ih, show ((n + 1 : Nat) : Int) = (n : Int) + 1 by omega, rank_step h]
theorem cnt_le (f : Int → Bool) : ∀ n : Nat, 0 ≤ cnt f n ∧ cnt f n ≤ n := by
  intro n
  induction n with
  | zero => exact ⟨Int.le_refl _, Int.le_refl _⟩
  | succ n ih => rw [cnt]; split <;> omega
theorem cnt_mono (f : Int → Bool) (n : Nat) : ∀ k, cnt f n ≤ cnt f (n + k) := by
  intro k
  induction k with
  | zero => exact Int.le_refl _
  | succ k ih => rw [← Nat.add_assoc, cnt]; split <;> omega
end Go.Proofs.Ytohdkidfhohmlaa
