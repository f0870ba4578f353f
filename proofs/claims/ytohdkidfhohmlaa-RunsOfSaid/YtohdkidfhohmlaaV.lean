/- What becomes of two sets, end by end. -/
import Derived.Test.YtohdkidfhohmlaaR
import Derived.Test.YtohdkidfhohmlaaT
namespace Go.Proofs.Ytohdkidfhohmlaa
open Go.RowKit
set_option linter.unusedSimpArgs false
set_option linter.unusedVariables false
theorem drop_drop {x y : Int} (h : y ≤ x) : ∀ L : List (Int × Int), dropB x (dropB y L) = dropB x L := by
  intro L
  induction L with
  | nil => rfl
  | cons p L ih =>
    rw [dropB]
    by_cases hy : p.2 ≤ y
    · rw [if_pos hy, ih, dropB, if_pos (by omega)]
    · rw [if_neg hy]
theorem drop_length (x : Int) : ∀ L : List (Int × Int), (dropB x L).length ≤ L.length := by
  intro L
  induction L with
  | nil => exact Nat.le_refl _
  | cons p L ih => rw [dropB]; split; (simp; omega); exact Nat.le_refl _
theorem beg_has {x : Int} : ∀ {L : List (Int × Int)} {b : Int}, rightB b L = true → begB x (dropB x L) = hasB x L := by
  intro L
  induction L with
  | nil => intro b _; rfl
  | cons p L ih =>
    intro b h
    obtain ⟨h1, h2, h3, h4⟩ := right_inv h
    rw [dropB, hasB]
    by_cases hx : p.2 ≤ x
    · rw [if_pos hx, if_neg (by omega), ih h4]
    · rw [if_neg hx, has_low h4 (by omega)]
      show decide (p.1 ≤ x) = _
      by_cases hp : p.1 ≤ x
      · rw [if_pos (by omega), decide_eq_true hp]
      · rw [if_neg (by omega), decide_eq_false hp]
theorem endsL_cons (p : Int × Int) (L : List (Int × Int)) : endsL (p :: L) = p.1 :: p.2 :: endsL L := by simp [endsL]
theorem has_const {f g x : Int} (hf : f ≤ x) (hg : x < g) : ∀ {L : List (Int × Int)}, (∀ e ∈ endsL L, e ≤ f ∨ g ≤ e) → hasB x L = hasB f L := by
  intro L
  induction L with
  | nil => intro _; rfl
  | cons p L ih =>
    intro h
    rw [endsL_cons] at h
    have h1 := h p.1 (by simp)
    have h2 := h p.2 (by simp)
    have h3 := ih (fun e he => h e (by simp [he]))
    rw [hasB, hasB, h3]
    by_cases hp : p.1 ≤ x ∧ x < p.2
    · rw [if_pos hp, if_pos (by omega)]
    · rw [if_neg hp, if_neg (by omega)]
theorem has_over {m x : Int} (hx : m ≤ x) : ∀ {L : List (Int × Int)}, (∀ e ∈ endsL L, e ≤ m) → hasB x L = false := by
  intro L
  induction L with
  | nil => intro _; rfl
  | cons p L ih =>
    intro h
    rw [endsL_cons] at h
    have h2 := h p.2 (by simp)
    rw [hasB, if_neg (by omega)]
    exact ih (fun e he => h e (by simp [he]))
theorem has_under {m x : Int} (hx : x < m) : ∀ {L : List (Int × Int)}, (∀ e ∈ endsL L, m ≤ e) → hasB x L = false := by
  intro L
  induction L with
  | nil => intro _; rfl
  | cons p L ih =>
    intro h
    rw [endsL_cons] at h
    have h2 := h p.1 (by simp)
    rw [hasB, if_neg (by omega)]
    exact ih (fun e he => h e (by simp [he]))
theorem ends_bd : ∀ {L : List (Int × Int)} {b : Int}, rightB b L = true → ∀ e ∈ endsL L, b < e ∧ e ≤ 65536 := by
  intro L
  induction L with
  | nil => intro b _ e he; simp [endsL] at he
  | cons p L ih =>
    intro b h e he
    obtain ⟨h1, h2, h3, h4⟩ := right_inv h
    rw [endsL_cons] at he
    simp at he
    rcases he with rfl | rfl | he
    · omega
    · omega
    · have := ih h4 e he; omega
/-- The ends of both, rising. -/
def cutsL (A B : List (Int × Int)) : List Int := srt (endsL A ++ endsL B)
theorem cuts_split {A B : List (Int × Int)} {i : Nat} (h : i + 1 < (cutsL A B).length) {e : Int} (he : e ∈ cutsL A B) : e ≤ (cutsL A B)[i] ∨ (cutsL A B)[i + 1] ≤ e := by
  obtain ⟨j, hj, rfl⟩ := List.getElem_of_mem he
  rcases Nat.lt_or_ge i j with h1 | h1
  · right
    rcases Nat.eq_or_lt_of_le (show i + 1 ≤ j from h1) with h2 | h2
    · subst h2; exact Int.le_refl _
    · exact srt_le _ h2 hj
  · left
    rcases Nat.eq_or_lt_of_le h1 with h2 | h2
    · subst h2; exact Int.le_refl _
    · exact srt_le _ h2 (by show i < (cutsL A B).length; omega)
theorem cuts_l {A B : List (Int × Int)} {e : Int} (h : e ∈ endsL A) : e ∈ cutsL A B := (srt_mem _ _).2 (List.mem_append_left _ h)
theorem cuts_r {A B : List (Int × Int)} {e : Int} (h : e ∈ endsL B) : e ∈ cutsL A B := (srt_mem _ _).2 (List.mem_append_right _ h)
theorem cuts_bd {A B : List (Int × Int)} (hA : rightB (-1) A = true) (hB : rightB (-1) B = true) {e : Int} (h : e ∈ cutsL A B) : 0 ≤ e ∧ e ≤ 65536 := by
  rcases List.mem_append.1 ((srt_mem _ _).1 h) with h | h
  · have := ends_bd hA e h; omega
  · have := ends_bd hB e h; omega
theorem cuts_length (A B : List (Int × Int)) : (cutsL A B).length = A.length * 2 + B.length * 2 := by rw [cutsL, srt_length, List.length_append, endsL_length, endsL_length]
/-- What both have till the i-th end. -/
def BSt (t : Bool → Bool → Bool) (A B : List (Int × Int)) (i : Nat) (L : List (Int × Int)) : Prop :=
  rightB (-1) L = true ∧ (i = 0 → L = []) ∧ ∀ h : i < (cutsL A B).length, lastE (-1) L ≤ (cutsL A B)[i] ∧ ∀ x, hasB x L = (decide (x < (cutsL A B)[i]) && t (hasB x A) (hasB x B))
theorem BSt.zero {t : Bool → Bool → Bool} {A B : List (Int × Int)} (ht : t false false = false) (hA : rightB (-1) A = true) (hB : rightB (-1) B = true) : BSt t A B 0 [] := by
  refine ⟨rfl, fun _ => rfl, fun h => ⟨by have := cuts_bd hA hB (List.getElem_mem h); show (-1 : Int) ≤ _; omega, fun x => ?_⟩⟩
  have hall : ∀ e ∈ cutsL A B, (cutsL A B)[0] ≤ e := fun e he => by
    obtain ⟨j, hj, rfl⟩ := List.getElem_of_mem he
    rcases Nat.eq_zero_or_pos j with h0 | h0
    · subst h0; exact Int.le_refl _
    · exact srt_le _ h0 hj
  by_cases hx : x < (cutsL A B)[0]
  · rw [has_under hx (fun e he => hall e (cuts_l he)), has_under hx (fun e he => hall e (cuts_r he)), ht]; simp [hasB]
  · rw [decide_eq_false hx]; rfl
theorem BSt.skip {t : Bool → Bool → Bool} {A B L : List (Int × Int)} {i : Nat} (h : BSt t A B i L) (h1 : i + 1 < (cutsL A B).length) (hi : i = 0 → L = [])
    (hn : (cutsL A B)[i] < (cutsL A B)[i + 1] → t (hasB (cutsL A B)[i] A) (hasB (cutsL A B)[i] B) = false) : BSt t A B (i + 1) L := by
  obtain ⟨r1, r2, r3⟩ := h
  obtain ⟨r4, r5⟩ := r3 (by omega)
  have hle : (cutsL A B)[i] ≤ (cutsL A B)[i + 1] := srt_le _ (Nat.lt_succ_self i) h1
  refine ⟨r1, fun h => by omega, fun _ => ⟨by omega, fun x => ?_⟩⟩
  rw [r5]
  by_cases hx : x < (cutsL A B)[i]
  · rw [decide_eq_true hx, decide_eq_true (by omega)]
  · rw [decide_eq_false hx]
    by_cases hx2 : x < (cutsL A B)[i + 1]
    · rw [decide_eq_true hx2, has_const (by omega) hx2 (fun e he => cuts_split h1 (cuts_l he)), has_const (by omega) hx2 (fun e he => cuts_split h1 (cuts_r he)), hn (by omega)]; rfl
    · rw [decide_eq_false hx2]
theorem BSt.next {t : Bool → Bool → Bool} {A B L N : List (Int × Int)} {i : Nat} (h : BSt t A B i L) (h1 : i + 1 < (cutsL A B).length) (hlt : (cutsL A B)[i] < (cutsL A B)[i + 1])
    (hn : t (hasB (cutsL A B)[i] A) (hasB (cutsL A B)[i] B) = true) (n1 : rightB (-1) N = true) (n2 : lastE (-1) N = (cutsL A B)[i + 1])
    (n3 : ∀ z, hasB z N = (hasB z L || decide ((cutsL A B)[i] ≤ z ∧ z < (cutsL A B)[i + 1]))) : BSt t A B (i + 1) N := by
  obtain ⟨r1, r2, r3⟩ := h
  obtain ⟨r4, r5⟩ := r3 (by omega)
  refine ⟨n1, fun h => by omega, fun _ => ⟨by omega, fun x => ?_⟩⟩
  rw [n3, r5]
  by_cases hx : x < (cutsL A B)[i]
  · rw [decide_eq_true hx, decide_eq_true (show x < (cutsL A B)[i + 1] by omega), decide_eq_false (show ¬ ((cutsL A B)[i] ≤ x ∧ x < (cutsL A B)[i + 1]) by omega)]; simp
  · rw [decide_eq_false hx]
    by_cases hx2 : x < (cutsL A B)[i + 1]
    · rw [decide_eq_true hx2, has_const (by omega) hx2 (fun e he => cuts_split h1 (cuts_l he)), has_const (by omega) hx2 (fun e he => cuts_split h1 (cuts_r he)), hn, decide_eq_true (show (cutsL A B)[i] ≤ x ∧ x < (cutsL A B)[i + 1] by omega)]; rfl
    · rw [decide_eq_false hx2, decide_eq_false (show ¬ ((cutsL A B)[i] ≤ x ∧ x < (cutsL A B)[i + 1]) by omega)]; rfl
theorem BSt.fin {t : Bool → Bool → Bool} {A B L : List (Int × Int)} {i : Nat} (ht : t false false = false) (h : BSt t A B i L) (hi : i + 1 = (cutsL A B).length ∨ ((cutsL A B).length = 0 ∧ i = 0)) :
    ∀ x, hasB x L = t (hasB x A) (hasB x B) := by
  obtain ⟨r1, r2, r3⟩ := h
  intro x
  rcases hi with hi | ⟨h0, rfl⟩
  · obtain ⟨r4, r5⟩ := r3 (by omega)
    rw [r5]
    by_cases hx : x < (cutsL A B)[i]
    · rw [decide_eq_true hx]; rfl
    · have hall : ∀ e ∈ cutsL A B, e ≤ (cutsL A B)[i] := fun e he => by
        obtain ⟨j, hj, rfl⟩ := List.getElem_of_mem he
        rcases Nat.eq_or_lt_of_le (show j ≤ i by omega) with h2 | h2
        · subst h2; exact Int.le_refl _
        · exact srt_le _ h2 (by show i < (cutsL A B).length; omega)
      rw [has_over (show (cutsL A B)[i] ≤ x by omega) (fun e he => hall e (cuts_l he)), has_over (show (cutsL A B)[i] ≤ x by omega) (fun e he => hall e (cuts_r he)), ht]; simp
  · rw [cuts_length] at h0
    have hA : A = [] := List.length_eq_zero_iff.1 (by omega)
    have hB : B = [] := List.length_eq_zero_iff.1 (by omega)
    rw [r2 rfl, hA, hB]
    exact ht.symm
end Go.Proofs.Ytohdkidfhohmlaa
