import Derived.Test.YtgegmbkjkiifaaaGB
namespace Go.Proofs.Ytgegmbkjkiifaaa
open Go.RowKit
set_option maxRecDepth 100000 in
set_option maxHeartbeats 400000 in
theorem fold_any (n : Int) (w : World) (h1 : -9223372036854775808 ≤ n) (h2 : n ≤ 9223372036854775807) :
    Calls Try.prog 52 #[.int .i64 n] w fun e w' => e = .returned (.int .u64 (foldZ n)) ∧ w = w' := by
  by_cases hn : n < 0
  · go_enter Try.func52, Try.ntmps52
    go_wp2
    go_ret
    exact ⟨ret_u (fold_eq n hn h1), rfl⟩
  · have h0 : 0 ≤ n := by omega
    go_enter Try.func52, Try.ntmps52
    go_wp2
    go_ret
    exact ⟨ret_u (by unfold foldZ; rw [if_neg (by omega)]; omega), rfl⟩
set_option maxRecDepth 100000 in
set_option maxHeartbeats 400000 in
theorem rfold_any (n : Int) (w : World) (h1 : -9223372036854775808 ≤ n) (h2 : n ≤ 9223372036854775807) :
    Calls Try.prog 54 #[.int .i64 n] w fun e w' => e = .returned (.int .u64 (foldZ n)) ∧ w = w' := by
  by_cases hn : n < 0
  · go_enter Try.func54, Try.ntmps54
    go_wp2
    go_ret
    exact ⟨ret_u (by unfold foldZ; rw [if_pos hn]; omega), rfl⟩
  · have h0 : 0 ≤ n := by omega
    go_enter Try.func54, Try.ntmps54
    go_wp2
    go_ret
    exact ⟨ret_u (by unfold foldZ; rw [if_neg (by omega)]), rfl⟩
theorem wrap_hi (y : Int) (h1 : 9223372036854775808 ≤ y) (h2 : y ≤ 18446744073709551615) : wrap64 y = y - 18446744073709551616 := by unfold wrap64; omega
set_option maxRecDepth 100000 in
set_option maxHeartbeats 400000 in
theorem unfold_any (u : Int) (w : World) (h1 : 0 ≤ u) (h2 : u ≤ 18446744073709551615) :
    Calls Try.prog 69 #[.int .u64 u] w fun e w' => e = .returned (.int .i64 (unfoldZ u)) ∧ w = w' := by
  have hb := and_one_u64 u h1 h2
  by_cases hu : u % 2 = 1
  · have hb1 : (bits BinOp.and IntKind.u64 u 1 == 1) = true := by rw [hb, hu]; rfl
    have Hu := Lib.hid hu
    clear hb hu
    go_enter Try.func69, Try.ntmps69
    go_wp2
    go_ret
    exact ⟨ret_u (by rw [u64_not _ (by omega) (by omega), wrap_hi _ (by omega) (by omega)]; unfold unfoldZ; rw [if_pos Hu.out]; omega), rfl⟩
  · have hb1 : (bits BinOp.and IntKind.u64 u 1 == 1) = false := by rw [hb]; simp; omega
    clear hb
    go_enter Try.func69, Try.ntmps69
    go_wp2
    go_ret
    exact ⟨ret_u (by unfold unfoldZ; rw [if_neg hu]), rfl⟩
set_option maxRecDepth 100000 in
set_option maxHeartbeats 400000 in
theorem runfold_any (u : Int) (w : World) (h1 : 0 ≤ u) (h2 : u ≤ 18446744073709551615) :
    Calls Try.prog 71 #[.int .u64 u] w fun e w' => e = .returned (.int .i64 (unfoldZ u)) ∧ w = w' := by
  by_cases hu : u % 2 = 0
  · have hb1 : (u % 2 == 0) = true := by simp [hu]
    have Hu := Lib.hid hu
    clear hu
    go_enter Try.func71, Try.ntmps71
    go_wp2
    go_ret
    exact ⟨ret_u (by unfold unfoldZ; rw [if_neg (by have := Hu.out; omega)]), rfl⟩
  · have hb1 : (u % 2 == 0) = false := by simp; omega
    have Hu := Lib.hid hu
    clear hu
    go_enter Try.func71, Try.ntmps71
    go_wp2
    go_ret
    exact ⟨ret_u (by unfold unfoldZ; rw [if_pos (by have := Hu.out; omega)]), rfl⟩
end Go.Proofs.Ytgegmbkjkiifaaa
