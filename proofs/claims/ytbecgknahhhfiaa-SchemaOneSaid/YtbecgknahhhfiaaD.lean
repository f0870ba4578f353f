/- Dim, Metric; the reserved words. -/
import Derived.Test.YtbecgknahhhfiaaC
namespace Go.Proofs.Ytbecgknahhhfiaa
open Go.RowKit
set_option linter.unusedSimpArgs false
set_option linter.unusedVariables false
set_option maxRecDepth 100000 in
set_option maxHeartbeats 1000000 in
theorem dim_any (A B : Option Addr) (n c m d : Nat) (L : List ByteArray) (s : ByteArray) (w : World) (hA : Row w A (texts L)) (hz : n = L.length) (hn : n ≤ 9223372036854775807) :
    Calls Try.prog 17 #[.agg #[.slice A n c, .slice B m d], .string s] w fun e w' => (∃ o, FirstAt L s o ∧ e = .returned (.tuple #[.int .i64 ((o.getD 0 : Nat) : Int), .bool o.isSome])) ∧ Below w.heap.size w w' := by
  have HA := Lib.hid hA
  have HZ := Lib.hid hz
  clear hA hz
  go_enter Try.func17, Try.ntmps17
  go_wp2_with fail
  refine (place_any A n c L s _ (HA.out.keep (Nat.le_refl _) (bpush (Below.refl _ _) _)) HZ.out hn).mono ?_
  rintro e w1 ⟨⟨o, ho, rfl⟩, rfl⟩
  have HO := Lib.hid ho
  clear ho
  go_wp2_with fail
  go_ret2
  exact ⟨⟨o, HO.out, rfl⟩, bpush (Below.refl _ _) _⟩
set_option maxRecDepth 100000 in
set_option maxHeartbeats 1000000 in
theorem metric_any (A B : Option Addr) (n c m d : Nat) (L : List ByteArray) (s : ByteArray) (w : World) (hB : Row w B (texts L)) (hz : m = L.length) (hn : m ≤ 9223372036854775807) :
    Calls Try.prog 18 #[.agg #[.slice A n c, .slice B m d], .string s] w fun e w' => (∃ o, FirstAt L s o ∧ e = .returned (.tuple #[.int .i64 ((o.getD 0 : Nat) : Int), .bool o.isSome])) ∧ Below w.heap.size w w' := by
  have HB := Lib.hid hB
  have HZ := Lib.hid hz
  clear hB hz
  go_enter Try.func18, Try.ntmps18
  go_wp2_with fail
  refine (place_any B m d L s _ (HB.out.keep (Nat.le_refl _) (bpush (Below.refl _ _) _)) HZ.out hn).mono ?_
  rintro e w1 ⟨⟨o, ho, rfl⟩, rfl⟩
  have HO := Lib.hid ho
  clear ho
  go_wp2_with fail
  go_ret2
  exact ⟨⟨o, HO.out, rfl⟩, bpush (Below.refl _ _) _⟩
end Go.Proofs.Ytbecgknahhhfiaa
