/- The live question. -/
import Derived.Test.YthogafecplhckaaDoorCR
import Derived.Test.YthogafecplhckaaDoorGY
import Derived.Lib.SlBytesConst
namespace Go.Proofs.YthogafecplhckaaDoor
open Go.RowKit
set_option linter.unusedSimpArgs false
set_option linter.unusedVariables false
theorem al_len : (blockL [104, 105]).length = 7 := by decide +kernel
theorem al_sum : sumI [49, 50, 51, 52, 53, 54, 55, 56, 57] = 3808858755 := by decide +kernel
theorem al_str : strOfNums [104, 105] = ⟨#[104, 105]⟩ := by decide +kernel
theorem al_by1 : bytes [104, 105] := by intro x hx; simp at hx; omega
theorem al_by2 : bytes [49, 50, 51, 52, 53, 54, 55, 56, 57] := by intro x hx; simp at hx; omega
theorem al_by3 : bytes [7] := by intro x hx; simp at hx; omega
theorem Row.marked {w : World} {t : TypeId} {xs : List Value} {cs : Array Value} {fr : Nat × Nat} (hx : cs = xs.toArray) : Row (w.alloc (.cells cs t fr)) (some ⟨w.heap.size, 0, none⟩) xs := by
  subst hx; exact .inr ⟨_, _, rfl, fun j u hu => by rw [Nat.zero_add, cell_of_row _ _ j _ t fr (heap_alloc_new w _)]; simpa using hu⟩
end Go.Proofs.YthogafecplhckaaDoor
