/- Name. -/
import Derived.Test.YtlfhjjlgmhkepaaE
import Derived.Laws.RangeString
import Derived.Laws.RangeAny
namespace Go.Proofs.Ytlfhjjlgmhkepaa
open Go.RowKit
set_option linter.unusedSimpArgs false
set_option linter.unusedVariables false
/-- May a byte stand in a name at a place? -/
def okN (i : Nat) (b : Nat) : Prop := (97 ≤ b ∧ b ≤ 122) ∨ (0 < i ∧ ((48 ≤ b ∧ b ≤ 57) ∨ b = 95))
def nameP (s : ByteArray) : Prop := 1 ≤ s.size ∧ s.size ≤ 12 ∧ s ∉ wordsL ∧ ∀ (i : Nat) (h : i < s.size), okN i (s[i]'h).toNat
end Go.Proofs.Ytlfhjjlgmhkepaa
