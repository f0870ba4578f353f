/- Lists of texts: Fits. -/
import Derived.Test.YtcpbjcemlkohkaaDoorA
namespace Go.Proofs.YtcpbjcemlkohkaaDoor
open Go.RowKit
set_option linter.unusedSimpArgs false
set_option linter.unusedVariables false
def texts (l : List ByteArray) : List Value := l.map Value.string
theorem text_cell {w : World} {A : Option Addr} {l : List ByteArray} {i : Nat} (hA : Row w A (texts l)) (hi : i < l.length) :
    ∃ b off, A = some ⟨b, off, none⟩ ∧ w.cell? ⟨b, off + i, none⟩ = some (.string l[i]) := by
  rcases hA with hA | ⟨b, off, rfl, hc⟩
  · have := congrArg List.length hA; simp [texts] at this; rw [this] at hi; simp at hi
  · exact ⟨b, off, rfl, hc i _ (by simp [texts, hi])⟩
def fitsP (l : List ByteArray) : Prop := l.length ≤ 20 ∧ ∀ s ∈ l, s.size ≤ 80
end Go.Proofs.YtcpbjcemlkohkaaDoor
