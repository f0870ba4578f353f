/- Numbers folded and unfolded, and the bits that do it. -/
import Derived.Test.YtgegmbkjkiifaaaA
import Derived.Laws.BitsAllLaws
namespace Go.Proofs.Ytgegmbkjkiifaaa
open Go.RowKit
theorem u64_not (x : Int) (h0 : 0 ≤ x) (h1 : x ≤ 18446744073709551615) : bits .xor .u64 IntKind.u64.max x = 18446744073709551615 - x := by
  obtain ⟨n, rfl⟩ := Int.eq_ofNat_of_zero_le h0
  have e : IntKind.u64.max = ((18446744073709551615 : Nat) : Int) := rfl
  rw [e, u64_xor_nat _ _ (by omega) (by omega)]
  have hb : (BitVec.allOnes 64 ^^^ BitVec.ofNat 64 n).toNat = 18446744073709551615 - n := by
    rw [BitVec.allOnes_xor, BitVec.toNat_not, BitVec.toNat_ofNat, Nat.mod_eq_of_lt (by omega)]
  rw [BitVec.toNat_xor, BitVec.toNat_ofNat, Nat.mod_eq_of_lt (by omega)] at hb
  have hc : (BitVec.allOnes 64).toNat = 18446744073709551615 := by decide
  rw [hc] at hb
  rw [hb]; omega
theorem u64_wrap (n : Int) : IntKind.u64.wrap n = n % 18446744073709551616 := by simp [IntKind.wrap, IntKind.bits, IntKind.signed]
/-- A number, folded. -/
def foldZ (n : Int) : Int := if n < 0 then -2 * n - 1 else 2 * n
def unfoldZ (u : Int) : Int := if u % 2 = 1 then -(u / 2) - 1 else u / 2
theorem fold_bd {n : Int} (h1 : -9223372036854775808 ≤ n) (h2 : n ≤ 9223372036854775807) : 0 ≤ foldZ n ∧ foldZ n ≤ 18446744073709551615 := by unfold foldZ; split <;> omega
theorem unfold_bd {u : Int} (h1 : 0 ≤ u) (h2 : u ≤ 18446744073709551615) : -9223372036854775808 ≤ unfoldZ u ∧ unfoldZ u ≤ 9223372036854775807 := by unfold unfoldZ; split <;> omega
theorem fold_unfold {u : Int} (h : 0 ≤ u) : foldZ (unfoldZ u) = u := by unfold foldZ unfoldZ; split <;> split <;> omega
theorem unfold_fold (n : Int) : unfoldZ (foldZ n) = n := by unfold foldZ unfoldZ; split <;> split <;> omega
theorem fold_eq (n : Int) (h1 : n < 0) (h2 : -9223372036854775808 ≤ n) : bits .xor .u64 IntKind.u64.max (IntKind.u64.wrap (IntKind.u64.wrap n * 2)) = foldZ n := by
  rw [u64_not _ (by rw [u64_wrap]; omega) (by rw [u64_wrap]; omega), u64_wrap, u64_wrap]; unfold foldZ; rw [if_pos h1]; omega
theorem fold_eq' (n : Int) (h1 : 0 ≤ n) (h2 : n ≤ 9223372036854775807) : IntKind.u64.wrap (n * 2) = foldZ n := by
  rw [u64_wrap]; unfold foldZ; rw [if_neg (by omega)]; omega
theorem ret_u {k : IntKind} {a b : Int} (h : a = b) : Ending.returned (.int k a) = .returned (.int k b) := by rw [h]
end Go.Proofs.Ytgegmbkjkiifaaa
