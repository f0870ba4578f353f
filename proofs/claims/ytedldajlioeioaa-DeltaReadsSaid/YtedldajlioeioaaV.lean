/- Strings of slices of bytes, and own rows that are kept. -/
import Derived.Test.YtedldajlioeioaaT
import Derived.Test.YtedldajlioeioaaY
namespace Go.Proofs.Ytedldajlioeioaa
open Go.RowKit
theorem conv_nil (w : World) : Sem.run Try.prog (convert 24 9 (.slice none 0 0)) w = .ok (.string (strOfNums [])) w := by
  have h1 := Try.underlying24
  have h2 := Try.underlying9
  have h3 := Try.underlying5
  go_simp
  rfl
theorem row_grown {w w' : World} {row : Option Nat} {g off : Nat} {xs : List Value} (hg : w.grownBy w' row) (h : Row w (some ⟨g, off, none⟩) xs) (hne : some g ≠ row) : Row w' (some ⟨g, off, none⟩) xs := by
  rcases h with h | ⟨b, o, he, hc⟩
  · exact .inl h
  · cases he; exact .inr ⟨_, _, rfl, fun j u hu => hg.cell (hc j u hu) hne⟩
end Go.Proofs.Ytedldajlioeioaa
