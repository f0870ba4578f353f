import Derived.Test.YtlfhjjlgmhkepaaQD
namespace Go.Proofs.Ytlfhjjlgmhkepaa
open Go.RowKit
set_option linter.unusedSimpArgs false
set_option maxHeartbeats 400000 in
theorem rfits_any (n : Int) (w : World) : Calls Try.prog 63 #[.int .i64 n] w fun e w' => e = .returned (.bool (fit1 n)) ∧ w = w' := by
  by_cases h1 : n < -4611686018427387904
  · rw [fit1_lo h1]
    go_enter Try.func63, Try.ntmps63
    go_wp2
    go_ret
    exact ⟨rfl, rfl⟩
  · by_cases h2 : 4611686018427387904 < n
    · rw [fit1_hi h2]
      go_enter Try.func63, Try.ntmps63
      go_wp2
      go_ret
      exact ⟨ret_bool (by simp; omega), rfl⟩
    · rw [fit1_in (by omega) (by omega)]
      go_enter Try.func63, Try.ntmps63
      go_wp2
      go_ret
      exact ⟨ret_bool (by simp <;> omega), rfl⟩
set_option maxHeartbeats 400000 in
theorem rright_any (s mn mx : Int) (w : World) :
    Calls Try.prog 41 #[.agg #[.int .i64 s, .int .i64 mn, .int .i64 mx]] w fun e w' => e = .returned (.bool (rightB s mn mx)) ∧ Below w.heap.size w w' := by
  have hdef : rightB s mn mx = (fit1 s && fit1 mn && fit1 mx && decide (mn ≤ mx)) := rfl
  have HD := Lib.hid hdef
  clear hdef
  go_enter Try.func41, Try.ntmps41
  go_wp2_with (go_at_call 63; refine (rfits_any _ _).mono ?_; rintro e w2 ⟨rfl, rfl⟩)
  all_goals
    go_ret
    exact ⟨ret_bool (by rw [HD.out]; simp [*]), by repeat (first | exact Below.refl _ _ | refine bset ?_ (by omega) _ | refine bpush ?_ _)⟩
set_option maxHeartbeats 400000 in
theorem one_no (n : Int) (w : World) (h : fit1 n = false) :
    Calls Try.prog 31 #[.int .i64 n] w fun e w' => e = .returned (.tuple #[.agg #[.int .i64 0, .int .i64 0, .int .i64 0], .int .i64 121]) ∧ Below w.heap.size w w' := by
  have H := Lib.hid h
  clear h
  go_enter Try.func31, Try.ntmps31
  go_wp2_with fail
  refine (afits_any _ 1 _ [n] _ ?_ (by omega) rfl).mono ?_
  · exact Row.made (by simp) rfl
  rintro e w' ⟨rfl, rfl⟩
  rw [show [n].all fit1 = false by simp only [List.all_cons, List.all_nil, Bool.and_true]; rw [H.out]]
  go_wp2
  exact bodyPost_ret (v := .tuple #[.agg #[.int .i64 0, .int .i64 0, .int .i64 0], .int .i64 121]) (by simp [results, Try.results31, go_sem]) rfl ⟨rfl, ((Below.refl _ _).alloc (Nat.le_refl _) _).alloc (by simp) _⟩
set_option maxHeartbeats 400000 in
theorem one_yes (n : Int) (w : World) (h : fit1 n = true) :
    Calls Try.prog 31 #[.int .i64 n] w fun e w' => e = .returned (.tuple #[.agg #[.int .i64 n, .int .i64 n, .int .i64 n], .int .i64 0]) ∧ Below w.heap.size w w' := by
  have H := Lib.hid h
  clear h
  go_enter Try.func31, Try.ntmps31
  go_wp2_with fail
  refine (afits_any _ 1 _ [n] _ ?_ (by omega) rfl).mono ?_
  · exact Row.made (by simp) rfl
  rintro e w' ⟨rfl, rfl⟩
  rw [show [n].all fit1 = true by simp only [List.all_cons, List.all_nil, Bool.and_true]; rw [H.out]]
  go_wp2
  exact bodyPost_ret (v := .tuple #[.agg #[.int .i64 n, .int .i64 n, .int .i64 n], .int .i64 0]) (by simp [results, Try.results31, go_sem]) rfl ⟨rfl, ((Below.refl _ _).alloc (Nat.le_refl _) _).alloc (by simp) _⟩
theorem oneA_no {n : Int} (h : fit1 n = false) : oneA n = (A3.zero, 121) := by simp [oneA, h]
theorem oneA_yes {n : Int} (h : fit1 n = true) : oneA n = (⟨n, n, n⟩, 0) := by simp [oneA, h]
theorem one_any (n : Int) (w : World) : Calls Try.prog 31 #[.int .i64 n] w (Ans (oneA n) w) := by
  cases h : fit1 n
  · rw [oneA_no h]; exact one_no n w h
  · rw [oneA_yes h]; exact one_yes n w h
set_option maxHeartbeats 400000 in
theorem rone_any (n : Int) (w : World) : Calls Try.prog 33 #[.int .i64 n] w (Ans (oneA n) w) := by
  cases h : fit1 n
  · rw [oneA_no h]
    have H := Lib.hid h
    clear h
    go_enter Try.func33, Try.ntmps33
    go_wp2_with (go_at_call 63; refine (rfits_any _ _).mono ?_; rintro e w2 ⟨rfl, rfl⟩; rw [H.out])
    exact bodyPost_ret (v := .tuple #[.agg #[.int .i64 0, .int .i64 0, .int .i64 0], .int .i64 121]) (by simp [results, Try.results33, go_sem]) rfl
      ⟨rfl, by repeat (first | exact Below.refl _ _ | refine bset ?_ (by omega) _ | refine bpush ?_ _)⟩
  · rw [oneA_yes h]
    have H := Lib.hid h
    clear h
    go_enter Try.func33, Try.ntmps33
    go_wp2_with (go_at_call 63; refine (rfits_any _ _).mono ?_; rintro e w2 ⟨rfl, rfl⟩; rw [H.out])
    exact bodyPost_ret (v := .tuple #[.agg #[.int .i64 n, .int .i64 n, .int .i64 n], .int .i64 0]) (by simp [results, Try.results33, go_sem]) rfl
      ⟨rfl, by repeat (first | exact Below.refl _ _ | refine bset ?_ (by omega) _ | refine bpush ?_ _)⟩
def sizeA (n : Int) : Int := if n < -4611686018427387904 then 4611686018427387904 else min (max n (-n)) 4611686018427387904
end Go.Proofs.Ytlfhjjlgmhkepaa
