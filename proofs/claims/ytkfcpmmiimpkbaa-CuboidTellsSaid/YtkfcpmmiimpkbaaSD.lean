/- Stretches in order, of one length each: the mathematics of stableCmpFunc. -/
import Derived.Test.YtkfcpmmiimpkbaaSA
namespace Go.Proofs.Ytkfcpmmiimpkbaa
open Go.RowKit
set_option linter.unusedSimpArgs false
set_option linter.unusedVariables false
section
variable {α : Type} {f : α → RV}
theorem flat_len {s : Nat} : ∀ {Ls : List (List α)}, (∀ l ∈ Ls, l.length = s) → Ls.flatten.length = Ls.length * s := by
  intro Ls
  induction Ls with
  | nil => intro _; simp
  | cons l Ls ih =>
    intro h
    rw [List.flatten_cons, List.length_append, ih fun x hx => h x (List.mem_cons_of_mem _ hx), h l (List.mem_cons_self ..), List.length_cons, Nat.add_mul]
    omega
/-- Stretches of s each, in order. -/
def Blks (f : α → RV) (s : Nat) (Ls : List (List α)) : Prop := ∀ l ∈ Ls, l.length = s ∧ SortedF f l
theorem Blks.len {s : Nat} {Ls : List (List α)} (h : Blks f s Ls) : Ls.flatten.length = Ls.length * s := flat_len fun l hl => (h l hl).1
theorem Blks.snoc {s : Nat} {Ls : List (List α)} {M : List α} (h : Blks f s Ls) (hl : M.length = s) (hs : SortedF f M) : Blks f s (Ls ++ [M]) := fun l hm => by
  rcases List.mem_append.1 hm with a | a
  · exact h l a
  · rw [List.mem_singleton.1 a]; exact ⟨hl, hs⟩
theorem Blks.nil {s : Nat} : Blks f s ([] : List (List α)) := fun l h => by cases h
theorem flat_snoc (Ls : List (List α)) (M : List α) : (Ls ++ [M]).flatten = Ls.flatten ++ M := by simp
/-- .. and a shorter one behind. -/
def BlkT (f : α → RV) (s : Nat) (L : List α) : Prop := ∃ Ls last, L = Ls.flatten ++ last ∧ Blks f s Ls ∧ last.length < s ∧ SortedF f last
/-- What is left has two whole ones in front. -/
theorem two_front {s : Nat} {Ls : List (List α)} {last : List α} (h : Blks f s Ls) (hl : last.length < s) (h2 : 2 * s ≤ (Ls.flatten ++ last).length) : ∃ l1 l2 Ls', Ls = l1 :: l2 :: Ls' := by
  rw [List.length_append, h.len] at h2
  match Ls with
  | [] => simp at h2; omega
  | [l] => simp at h2; omega
  | l1 :: l2 :: Ls' => exact ⟨l1, l2, Ls', rfl⟩
/-- What is left has one whole one at most. -/
theorem one_front {s : Nat} {Ls : List (List α)} {last : List α} (h : Blks f s Ls) (h2 : (Ls.flatten ++ last).length < 2 * s) : Ls = [] ∨ ∃ l, Ls = [l] := by
  rw [List.length_append, h.len] at h2
  match Ls with
  | [] => exact .inl rfl
  | [l] => exact .inr ⟨l, rfl⟩
  | l1 :: l2 :: Ls' =>
    exfalso
    rw [List.length_cons, List.length_cons, Nat.add_mul, Nat.add_mul] at h2
    omega
theorem BlkT.sorted {s : Nat} {L : List α} (h : BlkT f s L) (hl : L.length ≤ s) : SortedF f L := by
  obtain ⟨Ls, last, rfl, hb, h1, h2⟩ := h
  rcases one_front hb (show (Ls.flatten ++ last).length < 2 * s by omega) with rfl | ⟨l, rfl⟩
  · simpa using h2
  · have h3 := hb l (List.mem_cons_self ..)
    have : last = [] := List.eq_nil_of_length_eq_zero (by simp at hl; omega)
    subst this
    simpa using h3.2
end
end Go.Proofs.Ytkfcpmmiimpkbaa
