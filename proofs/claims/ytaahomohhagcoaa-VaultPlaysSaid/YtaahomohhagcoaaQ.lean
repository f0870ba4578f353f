/- No vault. -/
import Derived.Test.YtaahomohhagcoaaP
namespace Go.Proofs.Ytaahomohhagcoaa
open Go.RowKit Go.Maps Go.Shelf Go.Lib
set_option linter.unusedSimpArgs false
set_option linter.unusedVariables false
set_option maxRecDepth 100000 in
theorem read_nil (s : ByteArray) (w : World) : Calls Try.prog 20 #[.pointer none, .string s] w fun e w' => e = .returned (.tuple #[.slice none 0 0, .bool false]) ∧ w = w' := by
  go_enter Try.func20, Try.ntmps20
  go_wp2_with fail
  go_ret2
  exact ⟨rfl, rfl⟩
set_option maxRecDepth 100000 in
theorem append_nil (s : ByteArray) (v : Value) (w : World) : Calls Try.prog 22 #[.pointer none, .string s, v] w fun e w' => e = .returned (.int .i64 1) ∧ w = w' := by
  go_enter Try.func22, Try.ntmps22
  go_wp2_with fail
  go_ret
  exact ⟨rfl, rfl⟩
set_option maxRecDepth 100000 in
theorem sync_nil (s : ByteArray) (w : World) : Calls Try.prog 23 #[.pointer none, .string s] w fun e w' => e = .returned (.int .i64 1) ∧ w = w' := by
  go_enter Try.func23, Try.ntmps23
  go_wp2_with fail
  go_ret
  exact ⟨rfl, rfl⟩
set_option maxRecDepth 100000 in
theorem rename_nil (s t : ByteArray) (w : World) : Calls Try.prog 24 #[.pointer none, .string s, .string t] w fun e w' => e = .returned (.int .i64 1) ∧ w = w' := by
  go_enter Try.func24, Try.ntmps24
  go_wp2_with fail
  go_ret
  exact ⟨rfl, rfl⟩
set_option maxRecDepth 100000 in
theorem arm_nil (n : Int) (w : World) : Calls Try.prog 25 #[.pointer none, .int .i64 n] w fun e w' => e = .returned (.int .i64 1) ∧ w = w' := by
  go_enter Try.func25, Try.ntmps25
  go_wp2_with fail
  go_ret
  exact ⟨rfl, rfl⟩
set_option maxRecDepth 100000 in
theorem broken_nil  (w : World) : Calls Try.prog 26 #[.pointer none] w fun e w' => e = .returned (.bool false) ∧ w = w' := by
  go_enter Try.func26, Try.ntmps26
  go_wp2_with fail
  go_ret
  exact ⟨rfl, rfl⟩
set_option maxRecDepth 100000 in
theorem list_nil  (w : World) : Calls Try.prog 27 #[.pointer none] w fun e w' => e = .returned (.slice none 0 0) ∧ w = w' := by
  go_enter Try.func27, Try.ntmps27
  go_wp2_with fail
  go_ret
  exact ⟨rfl, rfl⟩
set_option maxRecDepth 100000 in
theorem free_nil  (w : World) : Calls Try.prog 29 #[.pointer none] w fun e w' => e = .returned (.int .i64 0) ∧ w = w' := by
  go_enter Try.func29, Try.ntmps29
  go_wp2_with fail
  go_ret
  exact ⟨rfl, rfl⟩
set_option maxRecDepth 100000 in
theorem delete_nil (s : ByteArray) (w : World) : Calls Try.prog 30 #[.pointer none, .string s] w fun e w' => e = .returned (.int .i64 1) ∧ w = w' := by
  go_enter Try.func30, Try.ntmps30
  go_wp2_with fail
  go_ret
  exact ⟨rfl, rfl⟩
set_option maxRecDepth 100000 in
theorem copy_nil  (w : World) : Calls Try.prog 17 #[.pointer none] w fun e w' => e = .returned (.pointer none) ∧ w = w' := by
  go_enter Try.func17, Try.ntmps17
  go_wp2_with fail
  go_ret
  exact ⟨rfl, rfl⟩
set_option maxRecDepth 100000 in
theorem crash_nil (t : Int) (w : World) : Calls Try.prog 15 #[.pointer none, .int .i64 t] w fun e w' => e = .returned (.pointer none) ∧ Below w.heap.size w w' := by
  go_enter Try.func15, Try.ntmps15
  go_wp2_with fail
  go_ret
  exact ⟨rfl, bpush (Below.refl _ _) _⟩
set_option maxRecDepth 100000 in
set_option maxHeartbeats 8000000 in
theorem nil_walk (k n : Int) (a z : ByteArray) (A : Option Addr) (nb cb : Nat) (w : World) : Calls Try.prog 7 #[.agg #[.int .i64 k, .int .i64 n, .string a, .string z, .slice A nb cb]] w fun e w' => e = .returned (.bool true) ∧ Below w.heap.size w w' := by
  obtain ⟨w1, hw1⟩ : ∃ w1, w1 = w.alloc (.cells #[.int .i64 k, .int .i64 n, .string a, .string z, .slice A nb cb] 33) := ⟨_, rfl⟩
  have HB1 := Lib.hid (show Below w.heap.size w w1 by rw [hw1]; exact bpush (Below.refl _ _) _)
  have HK := Lib.hid (show Blk w1 w.heap.size 33 #[.int .i64 k, .int .i64 n, .string a, .string z, .slice A nb cb] by rw [hw1]; exact Blk.new _ _ _)
  have HKP := Lib.hid (fun W (hb : Below w1.heap.size w1 W) => (show W.cell? ⟨w.heap.size, 0, none⟩ = some (.int .i64 k) ∧ W.cell? ⟨w.heap.size, 1, none⟩ = some (.int .i64 n) ∧ W.cell? ⟨w.heap.size, 2, none⟩ = some (.string a) ∧ W.cell? ⟨w.heap.size, 3, none⟩ = some (.string z) ∧ W.cell? ⟨w.heap.size, 4, none⟩ = some (.slice A nb cb) from by
    have h : Blk W w.heap.size 33 #[.int .i64 k, .int .i64 n, .string a, .string z, .slice A nb cb] := (hb.block _ HK.out.lt).trans HK.out
    exact ⟨by simpa using h.cell 0, by simpa using h.cell 1, by simpa using h.cell 2, by simpa using h.cell 3, by simpa using h.cell 4⟩))
  obtain ⟨c0, c1, c2, c3, c4⟩ := HKP.out w1 (Below.refl _ _)
  obtain ⟨q, hq⟩ : ∃ q, q = (decide (a.size ≤ 200) && decide (z.size ≤ 200) && decide (nb ≤ 200)) := ⟨_, rfl⟩
  have HQ := Lib.hid hq
  have HW1 := Lib.hid hw1
  clear hw1 hq
  cases q with
  | false =>
    go_enter Try.func7, Try.ntmps7
    go_upto_region 1 with fail
    rw [← HW1.out]
    go_wp2_with (first
      | (go_at_call 12; refine (fits_any k n a z A nb cb false w1 HQ.out).mono ?_; rintro e w2 ⟨rfl, hb⟩; have HB2 := Lib.hid (bthen HB1.out hb); clear hb)
      | (go_at_call 11; refine (alive_any w2).mono ?_; rintro e w3 ⟨rfl, hb⟩; have HB3 := Lib.hid (HB2.out.trans (hb.mono HB2.out.size)); clear hb))
    go_ret
    exact ⟨rfl, HB3.out⟩
  | true =>
    go_enter Try.func7, Try.ntmps7
    go_upto_region 1 with fail
    rw [← HW1.out]
    go_upto_region 5 with (go_at_call 12; refine (fits_any k n a z A nb cb true w1 HQ.out).mono ?_; rintro e w2 ⟨rfl, hb⟩; have HB2 := Lib.hid (bthen HB1.out hb); have HX2 := Lib.hid hb; clear hb)
    obtain ⟨k0, k1, k2, k3, k4⟩ := HKP.out _ HX2.out
    clear c0 c1 c2 c3 c4
    have HKQ := Lib.hid (fun W (hb : Below w2.heap.size w2 W) => HKP.out W (HX2.out.trans (hb.mono HX2.out.size)))
    go_wp2_with (first
      | (go_at_call 20; refine (read_nil _ _).mono ?_; rintro e w9 ⟨rfl, rfl⟩)
      | (go_at_call 22; refine (append_nil _ _ _).mono ?_; rintro e w9 ⟨rfl, rfl⟩)
      | (go_at_call 23; refine (sync_nil _ _).mono ?_; rintro e w9 ⟨rfl, rfl⟩)
      | (go_at_call 24; refine (rename_nil _ _ _).mono ?_; rintro e w9 ⟨rfl, rfl⟩)
      | (go_at_call 25; refine (arm_nil _ _).mono ?_; rintro e w9 ⟨rfl, rfl⟩)
      | (go_at_call 26; refine (broken_nil  _).mono ?_; rintro e w9 ⟨rfl, rfl⟩)
      | (go_at_call 27; refine (list_nil  _).mono ?_; rintro e w9 ⟨rfl, rfl⟩)
      | (go_at_call 29; refine (free_nil  _).mono ?_; rintro e w9 ⟨rfl, rfl⟩)
      | (go_at_call 30; refine (delete_nil _ _).mono ?_; rintro e w9 ⟨rfl, rfl⟩)
      | (go_at_call 17; refine (copy_nil  _).mono ?_; rintro e w9 ⟨rfl, rfl⟩)
      | (go_at_call 15; refine (crash_nil _ _).mono ?_; rintro e w9 ⟨rfl, hb⟩; have HB9 := Lib.hid hb; clear hb)
      | (go_at_call 11; refine (alive_any w2).mono ?_; rintro e w3 ⟨rfl, hb⟩; have HB3 := Lib.hid (HB2.out.trans (hb.mono HB2.out.size)); obtain ⟨j0, j1, j2, j3, j4⟩ := HKQ.out _ hb; clear hb))
    go_ret
    exact ⟨rfl, HB9.out.mono HB3.out.size |> fun h => HB3.out.trans h⟩
end Go.Proofs.Ytaahomohhagcoaa
