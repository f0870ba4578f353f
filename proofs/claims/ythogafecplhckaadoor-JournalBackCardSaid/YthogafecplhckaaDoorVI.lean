/- Rename, Append. -/
import Derived.Test.YthogafecplhckaaDoorVH
namespace Go.Proofs.YthogafecplhckaaDoor
open Go.RowKit Go.Maps Go.Shelf
set_option linter.unusedSimpArgs false
set_option linter.unusedVariables false
def renameS (P : VZ) (s t : ByteArray) : VZ × Int :=
  if nameB t = false then (P, 31) else
  match lookF P.F s with
  | none => (P, 31)
  | some f => if brkZ (actZ P) then (actZ P, 272) else (putZ (dropZ (actZ P) s) { f with name := t }, 0)
theorem name_size {s : ByteArray} (h : nameB s = true) : s.size ≤ 12 := by
  unfold nameB at h
  simp only [Bool.and_eq_true, decide_eq_true_eq] at h
  exact h.1.2
end Go.Proofs.YthogafecplhckaaDoor
