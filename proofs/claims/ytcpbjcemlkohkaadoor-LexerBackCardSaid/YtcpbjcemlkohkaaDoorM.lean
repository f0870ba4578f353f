/- Whether any text is no value; whether any number is too great. -/
import Derived.Test.YtcpbjcemlkohkaaDoorH
namespace Go.Proofs.YtcpbjcemlkohkaaDoor
open Go.RowKit
set_option linter.unusedSimpArgs false
set_option linter.unusedVariables false
def valP (s : ByteArray) : Prop := s.size ≤ 24 ∧ valueP s
def greatZ (x : Int) : Prop := x < -4611686018427387904 ∨ 4611686018427387904 < x
end Go.Proofs.YtcpbjcemlkohkaaDoor
