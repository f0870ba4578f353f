import Derived.Test.YtlfhjjlgmhkepaaQB
namespace Go.Proofs.Ytlfhjjlgmhkepaa
open Go.RowKit
def rightB (s mn mx : Int) : Bool := fit1 s && fit1 mn && fit1 mx && decide (mn ≤ mx)

set_option maxHeartbeats 400000 in
theorem right_any (s mn mx : Int) (w : World) :
    Calls Try.prog 37 #[.agg #[.int .i64 s, .int .i64 mn, .int .i64 mx]] w fun e w' => e = .returned (.bool (rightB s mn mx)) ∧ Below w.heap.size w w' := by
  obtain ⟨b, hb⟩ : ∃ b, b = (fit1 s && fit1 mn && fit1 mx) := ⟨_, rfl⟩
  have HB := Lib.hid hb
  clear hb
  cases b
  · go_enter Try.func37, Try.ntmps37
    go_wp2_with fail
    refine (afits_any _ 3 _ [s, mn, mx] _ ?_ (by omega) rfl).mono ?_
    · exact Row.made (by simp) rfl
    rintro e w' ⟨rfl, rfl⟩
    rw [show [s, mn, mx].all fit1 = false by simp only [List.all_cons, List.all_nil, Bool.and_true]; rw [HB.out, Bool.and_assoc]]
    go_wp2
    go_ret
    exact ⟨ret_bool (by simp [rightB, ← HB.out]), ((Below.refl _ _).alloc (Nat.le_refl _) _).alloc (by simp) _⟩
  · go_enter Try.func37, Try.ntmps37
    go_wp2_with fail
    refine (afits_any _ 3 _ [s, mn, mx] _ ?_ (by omega) rfl).mono ?_
    · exact Row.made (by simp) rfl
    rintro e w' ⟨rfl, rfl⟩
    rw [show [s, mn, mx].all fit1 = true by simp only [List.all_cons, List.all_nil, Bool.and_true]; rw [HB.out, Bool.and_assoc]]
    go_wp2
    go_ret
    exact ⟨ret_bool (by simp [rightB, ← HB.out]), ((Below.refl _ _).alloc (Nat.le_refl _) _).alloc (by simp) _⟩
end Go.Proofs.Ytlfhjjlgmhkepaa
