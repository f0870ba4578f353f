/- The argument [2]int. -/
import Derived.Test.YthogafecplhckaaDoorProg
import Derived.OpenShut
import Derived.ChangeOld
import Derived.ShutString
import Derived.Lib.SmallJoins
namespace Go.Proofs.YthogafecplhckaaDoor
open Go.ChangeShapes Go.WideShapes Go.Deep
set_option linter.unusedVariables false
theorem Tryd.underlying39 : Tryd.prog.underlying 39 = some (.array 2 3) := by kernel_rfl
theorem open_arr2 {H : Type} {enc : TypeId × Value → H} {P : Program} {w : World} {base b0 : Nat} {spare : Nat → Bool} {held : Bool} {r : Reach} {k : IntKind} {t e : TypeId} {v : Value} {d : DataW H} {p : List MemPlace} (ht : P.underlying t = some (.array 2 e)) (he : P.underlying e = some (.int k)) (hce : P.cellsOf e = 1) (hC : P.cellsOf t = 2)
    (hv : Value.okWide P w r b0 t v) (h : DataW.Trod enc P w base spare held t v d p) :
    ∃ a b : Int, v = .agg #[.int k a, .int k b] ∧ (Lit.int k a).wf = true ∧ (Lit.int k b).wf = true := by
  simp only [Value.okWide, ht] at hv
  obtain ⟨cs, rfl, hsz, _⟩ := hv
  obtain ⟨c0, c1, rfl⟩ := Go.Joins.array2 (hsz.trans hC)
  obtain ⟨fuel, hf⟩ := h
  obtain ⟨xs, m, _, _, _, hl, hi⟩ := DataW.trod_array ht hf
  match xs, hl with
  | [y0, y1], _ =>
    have h0 := hi 0 (by omega)
    have h1 := hi 1 (by omega)
    rw [hce] at h0 h1
    have f0 : DataW.trod enc P w base spare held m e [c0] = some y0 := by simpa [Value.cells] using h0
    have f1 : DataW.trod enc P w base spare held m e [c1] = some y1 := by simpa [Value.cells] using h1
    obtain ⟨a, ea, _, wa⟩ := DataW.trod_int he (x := y0) f0
    obtain ⟨b, eb, _, wb⟩ := DataW.trod_int he (x := y1) f1
    simp at ea eb
    subst ea eb
    exact ⟨a, b, rfl, wa, wb⟩
end Go.Proofs.YthogafecplhckaaDoor
