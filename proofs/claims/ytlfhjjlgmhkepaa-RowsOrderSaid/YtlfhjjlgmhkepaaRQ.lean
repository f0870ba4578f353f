/- RowsOrder's walk at its arguments. -/
import Derived.Test.YtlfhjjlgmhkepaaRO
import Derived.Test.YtlfhjjlgmhkepaaRP
namespace Go.Proofs.Ytlfhjjlgmhkepaa
open Go.RowKit
set_option linter.unusedVariables false
theorem order_all (A B : Option Addr) (n c m d : Nat) (L M : List ByteArray) (z0 z1 z2 : RZ) (w : World) (hA : Row w A (texts L)) (hB : Row w B (texts M)) (hn : n = L.length) (hm : m = M.length) (hnc : n ≤ c) (hmd : m ≤ d) (ha : A = none → c = 0) (hb : B = none → d = 0)
    (hL : ∀ s ∈ L, s.size ≤ 9223372036854775807) (hM : ∀ s ∈ M, s.size ≤ 9223372036854775807) (hc : c ≤ 9223372036854775807) (hd : d ≤ 9223372036854775807)
    (h0 : Good0 w z0 ∧ ∀ s ∈ z0.2.dims, s.size ≤ 9223372036854775807) (h1 : Good0 w z1 ∧ ∀ s ∈ z1.2.dims, s.size ≤ 9223372036854775807) (h2 : Good0 w z2 ∧ ∀ s ∈ z2.2.dims, s.size ≤ 9223372036854775807) :
    Calls Try.prog 7 #[.agg #[.slice A n c, .slice B m d], .agg (cellsR [z0, z1, z2]).toArray] w fun e w' => e = .returned (.bool true) ∧ Below w.heap.size w w' :=
  order_walk A B n c m d L M z0.2.t z0.2.count z0.1.D z0.1.G z0.1.n z0.1.c z0.1.gn z0.1.gc z0.2.dims z0.2.aggs z1.2.t z1.2.count z1.1.D z1.1.G z1.1.n z1.1.c z1.1.gn z1.1.gc z1.2.dims z1.2.aggs z2.2.t z2.2.count z2.1.D z2.1.G z2.1.n z2.1.c z2.1.gn z2.1.gc z2.2.dims z2.2.aggs w hA hB hn hm hnc hmd ha hb hL hM (Nat.le_trans hnc hc) (Nat.le_trans hmd hd) h0.1 h0.2 h1.1 h1.2 h2.1 h2.2
end Go.Proofs.Ytlfhjjlgmhkepaa
