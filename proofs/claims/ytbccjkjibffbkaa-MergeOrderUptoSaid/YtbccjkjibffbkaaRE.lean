/- Of (the code's). -/
import Derived.Test.YtbccjkjibffbkaaRD
namespace Go.Proofs.Ytbccjkjibffbkaa
open Go.RowKit
set_option linter.unusedSimpArgs false
set_option linter.unusedVariables false
/-- The aggs of an event's numbers. -/
def onesG (X : List Int) : List Ag := X.map fun n => ofA3 (oneA n).1
/-- An event's row, or the error. -/
def ofR (t : Int) (D : List ByteArray) (X : List Int) (v : Int) : RV × Int := if v = 0 then (⟨t, D, 1, onesG X⟩, 0) else (RV.zero, v)
theorem onesG_snoc (X : List Int) (k : Nat) (h : k < X.length) : onesG (X.take (k + 1)) = onesG (X.take k) ++ [ofA3 (oneA X[k]).1] := by
  unfold onesG; rw [take_snoc X k h, List.map_append]; rfl
theorem onesG_len (X : List Int) : (onesG X).length = X.length := by simp [onesG]
end Go.Proofs.Ytbccjkjibffbkaa
