/- Steps: plain mathematics of numbers that go round. -/
import Derived.RowKit
namespace Go.Proofs.Ytedldajlioeioaa
open Go.RowKit
set_option linter.unusedSimpArgs false
set_option linter.unusedVariables false
/-- A number of an int's range. -/
def i64 (n : Int) : Prop := -9223372036854775808 ≤ n ∧ n ≤ 9223372036854775807
def ints (l : List Int) : Prop := ∀ x ∈ l, i64 x
theorem wrap_i64 (n : Int) : i64 (wrap64 n) := by unfold i64 wrap64; omega
theorem wrap_id {n : Int} (h : i64 n) : wrap64 n = n := by unfold i64 at h; unfold wrap64; omega
/-- What each number but the first differs by from the one ahead; it goes round. -/
def stepsZ : List Int → List Int
  | a :: b :: l => wrap64 (b - a) :: stepsZ (b :: l)
  | _ => []
theorem steps_cons (a b : Int) (l : List Int) : stepsZ (a :: b :: l) = wrap64 (b - a) :: stepsZ (b :: l) := rfl
theorem steps_length : ∀ l : List Int, (stepsZ l).length = l.length - 1
  | [] => rfl
  | [_] => rfl
  | a :: b :: l => by rw [steps_cons, List.length_cons, steps_length (b :: l)]; simp
theorem steps_ints : ∀ l : List Int, ints (stepsZ l)
  | [] => by intro x h; cases h
  | [_] => by intro x h; cases h
  | a :: b :: l => by
    intro x h
    rw [steps_cons] at h
    rcases List.mem_cons.1 h with rfl | h
    · exact wrap_i64 _
    · exact steps_ints (b :: l) x h
theorem steps_get : ∀ (l : List Int) (i : Nat) (h : i + 1 < l.length), (stepsZ l)[i]? = some (wrap64 (l[i + 1] - l[i]))
  | [], i, h => by simp at h
  | [_], i, h => by simp at h
  | a :: b :: l, 0, h => rfl
  | a :: b :: l, i + 1, h => by
    rw [steps_cons, List.getElem?_cons_succ]
    have := steps_get (b :: l) i (by simpa using h)
    rw [this]
    rfl
theorem steps_snoc (l : List Int) (y z : Int) : stepsZ (l ++ [y, z]) = stepsZ (l ++ [y]) ++ [wrap64 (z - y)] := by
  induction l with
  | nil => rfl
  | cons a l ih =>
    cases l with
    | nil => rfl
    | cons b l =>
      have e1 : a :: b :: l ++ [y, z] = a :: b :: (l ++ [y, z]) := rfl
      have e2 : a :: b :: l ++ [y] = a :: b :: (l ++ [y]) := rfl
      rw [e1, e2, steps_cons, steps_cons]
      have ih' : stepsZ (b :: (l ++ [y, z])) = stepsZ (b :: (l ++ [y])) ++ [wrap64 (z - y)] := ih
      rw [ih']; rfl
/-- The least of a list; 0 of none. -/
def leastZ : List Int → Int
  | [] => 0
  | a :: l => l.foldl min a
theorem foldl_min : ∀ (l : List Int) (a : Int), l.foldl min a ≤ a ∧ (∀ x ∈ l, l.foldl min a ≤ x) ∧ (l.foldl min a = a ∨ l.foldl min a ∈ l) := by
  intro l
  induction l with
  | nil => intro a; exact ⟨Int.le_refl _, (fun x h => by cases h), .inl rfl⟩
  | cons b l ih =>
    intro a
    rw [List.foldl_cons]
    obtain ⟨h1, h2, h3⟩ := ih (min a b)
    refine ⟨by omega, ?_, ?_⟩
    · intro x hx
      rcases List.mem_cons.1 hx with rfl | hx
      · omega
      · exact h2 x hx
    · rcases h3 with h3 | h3
      · rcases (show min a b = a ∨ min a b = b by omega) with e | e
        · left; rw [h3, e]
        · right; rw [h3, e]; simp
      · right; exact List.mem_cons_of_mem _ h3
theorem least_le {l : List Int} {x : Int} (h : x ∈ l) : leastZ l ≤ x := by
  cases l with
  | nil => cases h
  | cons a l =>
    rcases List.mem_cons.1 h with rfl | h
    · exact (foldl_min l x).1
    · exact (foldl_min l a).2.1 x h
theorem least_ints {l : List Int} (h : ints l) : i64 (leastZ l) := by
  cases l with
  | nil => show i64 0; unfold i64; omega
  | cons a l =>
    rcases (foldl_min l a).2.2 with e | e
    · show i64 (l.foldl min a); rw [e]; exact h a (by simp)
    · exact h _ (List.mem_cons_of_mem _ e)
theorem least_snoc {l : List Int} (h : l ≠ []) (x : Int) : leastZ (l ++ [x]) = min (leastZ l) x := by
  cases l with
  | nil => exact absurd rfl h
  | cons a l => show (l ++ [x]).foldl min a = _; rw [List.foldl_append]; rfl
theorem least_mem {l : List Int} (h : l ≠ []) : leastZ l ∈ l := by
  cases l with
  | nil => exact absurd rfl h
  | cons a l =>
    rcases (foldl_min l a).2.2 with e | e
    · show l.foldl min a ∈ _; rw [e]; simp
    · exact List.mem_cons_of_mem _ e
/-- The steps less the least one. -/
def offZ (l : List Int) : List Nat := (stepsZ l).map fun s => (s - leastZ (stepsZ l)).toNat
theorem off_length (l : List Int) : (offZ l).length = l.length - 1 := by rw [offZ, List.length_map, steps_length]
theorem off_small (l : List Int) : ∀ x ∈ offZ l, x < 18446744073709551616 := by
  intro x hx
  obtain ⟨s, hs, rfl⟩ := List.mem_map.1 hx
  have h1 := steps_ints l s hs
  have h2 := least_ints (steps_ints l)
  have h3 := least_le hs
  unfold i64 at h1 h2
  omega
/-- The list of a first number, a base, and what is above it. -/
def walkZ (base : Int) : Int → List Nat → List Int
  | x, [] => [x]
  | x, o :: os => x :: walkZ base (wrap64 (x + base + o)) os
theorem walk_length (base : Int) : ∀ (os : List Nat) (x : Int), (walkZ base x os).length = os.length + 1 := by
  intro os
  induction os with
  | nil => intro x; rfl
  | cons o os ih => intro x; rw [walkZ, List.length_cons, ih, List.length_cons]
theorem walk_ints (base : Int) : ∀ (os : List Nat) (x : Int), i64 x → ints (walkZ base x os) := by
  intro os
  induction os with
  | nil => intro x h y hy; rw [walkZ] at hy; simp at hy; rw [hy]; exact h
  | cons o os ih =>
    intro x h y hy
    rw [walkZ] at hy
    rcases List.mem_cons.1 hy with rfl | hy
    · exact h
    · exact ih _ (wrap_i64 _) y hy
theorem walk_snoc (base : Int) : ∀ (os : List Nat) (x : Int) (o : Nat), walkZ base x (os ++ [o]) = walkZ base x os ++ [wrap64 ((walkZ base x os).getLastD 0 + base + o)] := by
  intro os
  induction os with
  | nil => intro x o; rfl
  | cons p os ih =>
    intro x o
    rw [List.cons_append, walkZ, ih, walkZ, List.cons_append]
    congr 3
    cases h : walkZ base (wrap64 (x + base + p)) os with
    | nil => have := walk_length base os (wrap64 (x + base + p)); rw [h] at this; simp at this
    | cons a l => rfl
theorem wrap_step {a b : Int} (ha : i64 a) (hb : i64 b) : wrap64 (a + wrap64 (b - a)) = b := by unfold i64 at ha hb; unfold wrap64; omega
/-- There and back. -/
theorem walk_steps (base : Int) : ∀ (l : List Int) (a : Int), ints (a :: l) → (∀ s ∈ stepsZ (a :: l), base ≤ s) → walkZ base a ((stepsZ (a :: l)).map fun s => (s - base).toNat) = a :: l := by
  intro l
  induction l with
  | nil => intro a _ _; rfl
  | cons b l ih =>
    intro a h hs
    rw [steps_cons, List.map_cons, walkZ]
    have h1 := hs (wrap64 (b - a)) (by rw [steps_cons]; simp)
    have e : wrap64 (a + base + ((wrap64 (b - a) - base).toNat : Int)) = b := by
      rw [show a + base + ((wrap64 (b - a) - base).toNat : Int) = a + wrap64 (b - a) by omega]
      exact wrap_step (h a (by simp)) (h b (by simp))
    rw [e, ih b (fun x hx => h x (List.mem_cons_of_mem _ hx)) (fun s hs' => hs s (by rw [steps_cons]; exact List.mem_cons_of_mem _ hs'))]
theorem walk_off {a : Int} {l : List Int} (h : ints (a :: l)) : walkZ (leastZ (stepsZ (a :: l))) a (offZ (a :: l)) = a :: l :=
  walk_steps _ l a h (fun s hs => least_le hs)
/-- All moved: the same steps. -/
theorem steps_move (by_ : Int) : ∀ l : List Int, stepsZ (l.map fun x => wrap64 (x + by_)) = stepsZ l
  | [] => rfl
  | [_] => rfl
  | a :: b :: l => by
    have ih := steps_move by_ (b :: l)
    rw [List.map_cons] at ih
    rw [List.map_cons, List.map_cons, steps_cons, ih, steps_cons]
    congr 1
    unfold wrap64; omega
/-- Numbers one behind the other, each by a step above the one ahead. -/
def accZ (f : Int) (d : Nat → Int) : Nat → Int
  | 0 => f
  | n + 1 => wrap64 (accZ f d n + d n)
theorem acc_i64 {f : Int} (hf : i64 f) (d : Nat → Int) : ∀ n, i64 (accZ f d n)
  | 0 => hf
  | n + 1 => wrap_i64 _
def accL (f : Int) (d : Nat → Int) (n : Nat) : List Int := (List.range n).map (accZ f d)
theorem accL_snoc (f : Int) (d : Nat → Int) (n : Nat) : accL f d (n + 1) = accL f d n ++ [accZ f d n] := by simp [accL, List.range_succ]
theorem accL_length (f : Int) (d : Nat → Int) (n : Nat) : (accL f d n).length = n := by simp [accL]
theorem accL_ints {f : Int} (hf : i64 f) (d : Nat → Int) (n : Nat) : ints (accL f d n) := by
  intro x hx
  obtain ⟨i, _, rfl⟩ := List.mem_map.1 hx
  exact acc_i64 hf d i
theorem acc_steps {f : Int} (hf : i64 f) (d : Nat → Int) (n : Nat) : stepsZ (accL f d n) = (List.range (n - 1)).map fun i => wrap64 (d i) := by
  apply List.ext_getElem?
  intro i
  rcases Nat.lt_or_ge i (n - 1) with h | h
  · rw [steps_get _ i (by rw [accL_length]; omega), List.getElem?_map, List.getElem?_range h]
    simp only [accL, List.getElem_map, List.getElem_range, Option.map_some]
    have := acc_i64 hf d i
    congr 1
    show wrap64 (wrap64 (accZ f d i + d i) - accZ f d i) = _
    unfold wrap64; omega
  · rw [List.getElem?_eq_none (by rw [steps_length, accL_length]; omega), List.getElem?_eq_none (by simp; omega)]
theorem off_const {f s : Int} (hf : i64 f) (n : Nat) : ∀ x ∈ offZ (accL f (fun _ => s) n), x = 0 := by
  intro x hx
  unfold offZ at hx
  rw [acc_steps hf] at hx
  obtain ⟨y, hy, rfl⟩ := List.mem_map.1 hx
  have h1 := least_le hy
  have hne : (List.range (n - 1)).map (fun _ => wrap64 s) ≠ [] := fun e => by rw [e] at hy; cases hy
  have h2 := least_mem hne
  obtain ⟨i, _, e1⟩ := List.mem_map.1 hy
  obtain ⟨j, _, e2⟩ := List.mem_map.1 h2
  omega
theorem off_few {f : Int} {d : Nat → Int} (hf : i64 f) (hd : ∀ i, 0 ≤ d i ∧ d i ≤ 31) (n : Nat) : ∀ x ∈ offZ (accL f d n), x < 2 ^ 5 := by
  intro x hx
  unfold offZ at hx
  rw [acc_steps hf] at hx
  obtain ⟨y, hy, rfl⟩ := List.mem_map.1 hx
  have h1 := least_le hy
  have hne : (List.range (n - 1)).map (fun i => wrap64 (d i)) ≠ [] := fun e => by rw [e] at hy; cases hy
  have h2 := least_mem hne
  obtain ⟨i, _, e1⟩ := List.mem_map.1 hy
  obtain ⟨j, _, e2⟩ := List.mem_map.1 h2
  have h3 := hd i
  have h4 := hd j
  have e3 : ∀ k, wrap64 (d k) = d k := fun k => by have := hd k; unfold wrap64; omega
  rw [e3] at e1 e2
  omega
/-- No number comes behind a greater one. -/
def risesZ : List Int → Bool
  | a :: b :: l => decide (a ≤ b) && risesZ (b :: l)
  | _ => true
theorem rises_iff : ∀ l : List Int, risesZ l = true ↔ ∀ (i : Nat) (h : i + 1 < l.length), l[i] ≤ l[i + 1]
  | [] => by simp [risesZ]
  | [_] => by simp [risesZ]
  | a :: b :: l => by
    rw [risesZ, Bool.and_eq_true, rises_iff (b :: l), decide_eq_true_iff]
    constructor
    · rintro ⟨h1, h2⟩ i hi
      cases i with
      | zero => exact h1
      | succ i => exact h2 i (by simpa using hi)
    · intro h
      exact ⟨h 0 (by simp), fun i hi => h (i + 1) (by simpa using hi)⟩
theorem rises_back (l : List Int) : risesZ l.reverse = true ↔ ∀ (i : Nat) (h : i + 1 < l.length), l[i + 1] ≤ l[i] := by
  rw [rises_iff]
  constructor
  · intro h i hi
    have := h (l.length - 2 - i) (by simp; omega)
    simp only [List.getElem_reverse] at this
    have e1 : l.length - 1 - (l.length - 2 - i) = i + 1 := by omega
    have e2 : l.length - 1 - (l.length - 2 - i + 1) = i := by omega
    simpa only [e1, e2] using this
  · intro h i hi
    simp only [List.getElem_reverse]
    have := h (l.length - 2 - i) (by simp at hi; omega)
    have e1 : l.length - 2 - i + 1 = l.length - 1 - i := by simp at hi; omega
    have e2 : l.length - 2 - i = l.length - 1 - (i + 1) := by simp at hi; omega
    simp only [e1] at this
    simpa only [e2] using this
end Go.Proofs.Ytedldajlioeioaa
