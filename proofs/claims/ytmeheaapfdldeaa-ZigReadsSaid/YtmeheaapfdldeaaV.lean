/- Strings of slices of bytes, and own rows that are kept. -/
import Derived.Test.YtmeheaapfdldeaaP
import Derived.Test.YtmeheaapfdldeaaT
import Derived.Test.YtmeheaapfdldeaaU
namespace Go.Proofs.Ytmeheaapfdldeaa
open Go.RowKit
theorem conv_nil (w : World) : Sem.run Try.prog (convert 28 9 (.slice none 0 0)) w = .ok (.string (strOfNums [])) w := by
  have h1 := Try.underlying28
  have h2 := Try.underlying9
  have h3 := Try.underlying5
  go_simp
  rfl
theorem conv_xv {w : World} {v : Value} {xs : List Int} (h : XV w v xs) : Sem.run Try.prog (convert 28 9 v) w = .ok (.string (strOfNums xs)) w := by
  obtain ⟨A, c, rfl, _, hr, hn⟩ := h
  cases xs with
  | nil => obtain ⟨rfl, rfl⟩ := hn rfl; exact conv_nil w
  | cons x xs =>
    rcases hr with h | ⟨b, off, rfl, hc⟩
    · simp at h
    · exact conv_q (.inr ⟨b, off, rfl, hc⟩) rfl rfl
theorem own_keep {w w' : World} {base : Nat} {v : Value} {n : Nat} {xs : List Value} (h : w.ownsRow base 5 1 v n xs) (hb : Below w.heap.size w w') : w'.ownsRow base 5 1 v n xs := by
  refine ⟨h.1, ?_⟩
  rcases h.2 with h0 | ⟨g, cap, cur, h1, h2, h3, h4⟩
  · exact .inl h0
  · have hg : g < w.heap.size := by
      rcases Nat.lt_or_ge g w.heap.size with h5 | h5
      · exact h5
      · rw [Array.getElem?_eq_none h5] at h3; cases h3
    exact .inr ⟨g, cap, cur, h1, h2, (hb.block g hg).trans h3, h4⟩
/-- A slice that does not lie in an own row's block. -/
def Apart (b c : Value) : Prop := ∀ j g off m cc, c.ownBlock = some j → b = .slice (some ⟨g, off, none⟩) m cc → g ≠ j
theorem strOf_app (xs ys : List Int) : strOfNums (xs ++ ys) = strOfNums xs ++ strOfNums ys := by
  apply ByteArray.ext
  apply Array.ext'
  simp [strOfNums_data]
theorem row_grown {w w' : World} {row : Option Nat} {g off : Nat} {xs : List Value} (hg : w.grownBy w' row) (h : Row w (some ⟨g, off, none⟩) xs) (hne : some g ≠ row) : Row w' (some ⟨g, off, none⟩) xs := by
  rcases h with h | ⟨b, o, he, hc⟩
  · exact .inl h
  · cases he; exact .inr ⟨_, _, rfl, fun j u hu => hg.cell (hc j u hu) hne⟩
theorem apart_of {g off m cc : Nat} {d : Value} (h : ∀ j, d.ownBlock = some j → g ≠ j) : Apart (.slice (some ⟨g, off, none⟩) m cc) d := by
  intro j g' off' m' cc' hj he
  cases he
  exact h j hj
theorem conv_own {w : World} {base : Nat} {d : Value} {xs : List Int} (h : w.ownsRow base 5 1 d xs.length (xs.map (Value.int .u8))) : Sem.run Try.prog (convert 28 9 d) w = .ok (.string (strOfNums xs)) w := by
  rcases Nat.eq_zero_or_pos xs.length with h0 | h0
  · have hx := List.eq_nil_of_length_eq_zero h0
    subst hx
    rcases h.2 with ⟨rfl, _⟩ | ⟨g, cap, cur, rfl, _⟩
    · exact conv_nil w
    · exact conv_q (xs := []) (.inl rfl) rfl rfl
  · obtain ⟨g', cap', he, _, hr⟩ := Row.of_own h h0
    cases he
    exact conv_q hr rfl rfl
end Go.Proofs.Ytmeheaapfdldeaa
