/- Whether a filter has what its Op has, and nothing else: the program's answer (59). -/
import Derived.Test.YtjfkgiflakfjfaaFE
namespace Go.Proofs.Ytjfkgiflakfjfaa
open Go.RowKit Go.Maps Go.Lib
set_option linter.unusedSimpArgs false
set_option linter.unusedVariables false
def opT (op : Int) (n : Nat) (b1 b2 top : Bool) : Bool := if op = 0 then decide (n = 0) && top && b1 && b2 else opB op n b1 b2
def FT.opTop (f : FT) (top : Bool) : Bool := opT f.op f.n (decide (f.dim = ⟨#[]⟩)) (decide (f.val = ⟨#[]⟩)) top
set_option maxRecDepth 100000 in
set_option maxHeartbeats 32000000 in
theorem opshaped_any (f : FT) (top : Bool) (w : World) (hn2 : f.n ≤ 9223372036854775807) : Calls Try.prog 59 #[.agg #[.int .i64 f.op, .string f.dim, .string f.val, .slice f.A f.n f.c], .bool top] w fun e w' => e = .returned (.bool (f.opTop top)) ∧ Below w.heap.size w w' := by
  obtain ⟨oo, hoo⟩ : ∃ o, o = f.opTop top := ⟨_, rfl⟩
  rw [← hoo]
  unfold FT.opTop at hoo
  obtain ⟨op, hopx⟩ : ∃ x, x = f.op := ⟨_, rfl⟩
  obtain ⟨x1, hx1⟩ : ∃ x, x = f.dim := ⟨_, rfl⟩
  obtain ⟨x2, hx2⟩ : ∃ x, x = f.val := ⟨_, rfl⟩
  obtain ⟨A, hA⟩ : ∃ A, A = f.A := ⟨_, rfl⟩
  obtain ⟨k, hk⟩ : ∃ n, n = f.n := ⟨_, rfl⟩
  obtain ⟨c, hc⟩ : ∃ c, c = f.c := ⟨_, rfl⟩
  rw [← hopx, ← hx1, ← hx2, ← hk] at hoo
  rw [← hopx, ← hx1, ← hx2, ← hA, ← hk, ← hc]
  rw [← hk] at hn2
  clear hopx hx1 hx2 hA hk hc
  obtain ⟨w1, hw1⟩ : ∃ w1, w1 = w.alloc (.cells #[.int .i64 op, .string x1, .string x2, .slice A k c] 29) := ⟨_, rfl⟩
  have HB := Lib.hid (show Below w.heap.size w w1 by rw [hw1]; exact bpush (Below.refl _ _) _)
  have hK : Blk w1 w.heap.size 29 #[.int .i64 op, .string x1, .string x2, .slice A k c] := by rw [hw1]; exact Blk.new _ _ _
  have c0 : w1.cell? ⟨w.heap.size, 0, none⟩ = some (.int .i64 op) := by rw [hK.cell 0]; rfl
  have c1 : w1.cell? ⟨w.heap.size, 1, none⟩ = some (.string x1) := by rw [hK.cell 1]; rfl
  have c2 : w1.cell? ⟨w.heap.size, 2, none⟩ = some (.string x2) := by rw [hK.cell 2]; rfl
  have c3 : w1.cell? ⟨w.heap.size, 3, none⟩ = some (.slice A k c) := by rw [hK.cell 3]; rfl
  have HW1 := Lib.hid hw1
  have HOP := Lib.hid hoo
  clear hw1 hK hoo
  go_enter Try.func59, Try.ntmps59
  go_upto_region 1 with fail
  rw [← HW1.out]
  by_cases o1 : op = 1
  · subst o1
    by_cases m : k = 0
    · have m1 : ((k : Nat) : Int) = 0 := by omega
      go_wp2_with fail
      go_ret
      exact ⟨by rw [HOP.out]; simp [opT, opB, m]; try rfl, HB.out⟩
    · have m1 : ¬ ((k : Nat) : Int) = 0 := by omega
      go_wp2_with fail
      go_ret
      exact ⟨by rw [HOP.out]; simp [opT, opB, m]; try rfl, HB.out⟩
  by_cases o2 : op = 2
  · subst o2
    by_cases z2 : x2 = ⟨#[]⟩
    · by_cases m : k = 0
      · have m1 : ((k : Nat) : Int) = 0 := by omega
        go_wp2_with fail
        go_ret
        exact ⟨by rw [HOP.out]; rw [decide_eq_true z2]; simp [opT, opB, m]; try rfl, HB.out⟩
      · have m1 : ¬ ((k : Nat) : Int) = 0 := by omega
        go_wp2_with fail
        go_ret
        exact ⟨by rw [HOP.out]; rw [decide_eq_true z2]; simp [opT, opB, m]; try rfl, HB.out⟩
    · have y2 : ¬ x2.toList = [] := by
        have := str_ne_lit (l := []) z2
        simpa using this
      have v2 : (x2.toList == []) = false := str_ne_lit (l := []) z2
      have u2 : (x2.toList != []) = true := by simp [y2]
      go_wp2_with fail
      go_ret
      exact ⟨by rw [HOP.out]; rw [decide_eq_false z2]; simp [opT, opB, z2, y2, v2]; try rfl, HB.out⟩
  by_cases o3 : op = 3
  · subst o3
    by_cases m : k = 1
    · by_cases z1 : x1 = ⟨#[]⟩
      · by_cases z2 : x2 = ⟨#[]⟩
        · have m1 : ((k : Nat) : Int) = 1 := by omega
          go_wp2_with fail
          go_ret
          exact ⟨by rw [HOP.out]; rw [decide_eq_true z1]; rw [decide_eq_true z2]; simp [opT, opB, m]; try rfl, HB.out⟩
        · have m1 : ((k : Nat) : Int) = 1 := by omega
          have y2 : ¬ x2.toList = [] := by
            have := str_ne_lit (l := []) z2
            simpa using this
          have v2 : (x2.toList == []) = false := str_ne_lit (l := []) z2
          have u2 : (x2.toList != []) = true := by simp [y2]
          go_wp2_with fail
          go_ret
          exact ⟨by rw [HOP.out]; rw [decide_eq_true z1]; rw [decide_eq_false z2]; simp [opT, opB, m, y2, v2]; try rfl, HB.out⟩
      · have m1 : ((k : Nat) : Int) = 1 := by omega
        have y1 : ¬ x1.toList = [] := by
          have := str_ne_lit (l := []) z1
          simpa using this
        have v1 : (x1.toList == []) = false := str_ne_lit (l := []) z1
        have u1 : (x1.toList != []) = true := by simp [y1]
        go_wp2_with fail
        go_ret
        exact ⟨by rw [HOP.out]; rw [decide_eq_false z1]; simp [opT, opB, m, y1, v1]; try rfl, HB.out⟩
    · have m1 : ¬ ((k : Nat) : Int) = 1 := by omega
      have m2 : (k : Int) ≠ 1 := by omega
      go_wp2_with fail
      go_ret
      exact ⟨by rw [HOP.out]; simp [opT, opB, m]; try rfl, HB.out⟩
  by_cases o4 : op = 4
  · subst o4
    by_cases m : k < 2
    · have m1 : ((k : Nat) : Int) < 2 := by omega
      have m2 : ¬ 2 ≤ k := by omega
      go_wp2_with fail
      go_ret
      exact ⟨by rw [HOP.out]; simp [opT, opB, m2]; try rfl, HB.out⟩
    · by_cases z1 : x1 = ⟨#[]⟩
      · by_cases z2 : x2 = ⟨#[]⟩
        · have m1 : ¬ ((k : Nat) : Int) < 2 := by omega
          have m2 : 2 ≤ k := by omega
          go_wp2_with fail
          go_ret
          exact ⟨by rw [HOP.out]; rw [decide_eq_true z1]; rw [decide_eq_true z2]; simp [opT, opB, m2]; try rfl, HB.out⟩
        · have m1 : ¬ ((k : Nat) : Int) < 2 := by omega
          have m2 : 2 ≤ k := by omega
          have y2 : ¬ x2.toList = [] := by
            have := str_ne_lit (l := []) z2
            simpa using this
          have v2 : (x2.toList == []) = false := str_ne_lit (l := []) z2
          have u2 : (x2.toList != []) = true := by simp [y2]
          go_wp2_with fail
          go_ret
          exact ⟨by rw [HOP.out]; rw [decide_eq_true z1]; rw [decide_eq_false z2]; simp [opT, opB, m2, y2, v2]; try rfl, HB.out⟩
      · have m1 : ¬ ((k : Nat) : Int) < 2 := by omega
        have m2 : 2 ≤ k := by omega
        have y1 : ¬ x1.toList = [] := by
          have := str_ne_lit (l := []) z1
          simpa using this
        have v1 : (x1.toList == []) = false := str_ne_lit (l := []) z1
        have u1 : (x1.toList != []) = true := by simp [y1]
        go_wp2_with fail
        go_ret
        exact ⟨by rw [HOP.out]; rw [decide_eq_false z1]; simp [opT, opB, m2, y1, v1]; try rfl, HB.out⟩
  by_cases o5 : op = 5
  · subst o5
    by_cases m : k < 2
    · have m1 : ((k : Nat) : Int) < 2 := by omega
      have m2 : ¬ 2 ≤ k := by omega
      go_wp2_with fail
      go_ret
      exact ⟨by rw [HOP.out]; simp [opT, opB, m2]; try rfl, HB.out⟩
    · by_cases z1 : x1 = ⟨#[]⟩
      · by_cases z2 : x2 = ⟨#[]⟩
        · have m1 : ¬ ((k : Nat) : Int) < 2 := by omega
          have m2 : 2 ≤ k := by omega
          go_wp2_with fail
          go_ret
          exact ⟨by rw [HOP.out]; rw [decide_eq_true z1]; rw [decide_eq_true z2]; simp [opT, opB, m2]; try rfl, HB.out⟩
        · have m1 : ¬ ((k : Nat) : Int) < 2 := by omega
          have m2 : 2 ≤ k := by omega
          have y2 : ¬ x2.toList = [] := by
            have := str_ne_lit (l := []) z2
            simpa using this
          have v2 : (x2.toList == []) = false := str_ne_lit (l := []) z2
          have u2 : (x2.toList != []) = true := by simp [y2]
          go_wp2_with fail
          go_ret
          exact ⟨by rw [HOP.out]; rw [decide_eq_true z1]; rw [decide_eq_false z2]; simp [opT, opB, m2, y2, v2]; try rfl, HB.out⟩
      · have m1 : ¬ ((k : Nat) : Int) < 2 := by omega
        have m2 : 2 ≤ k := by omega
        have y1 : ¬ x1.toList = [] := by
          have := str_ne_lit (l := []) z1
          simpa using this
        have v1 : (x1.toList == []) = false := str_ne_lit (l := []) z1
        have u1 : (x1.toList != []) = true := by simp [y1]
        go_wp2_with fail
        go_ret
        exact ⟨by rw [HOP.out]; rw [decide_eq_false z1]; simp [opT, opB, m2, y1, v1]; try rfl, HB.out⟩
  by_cases o0 : op = 0
  · subst o0
    by_cases m : k = 0
    · cases top with
      | true =>
        by_cases z1 : x1 = ⟨#[]⟩
        · by_cases z2 : x2 = ⟨#[]⟩
          · have m1 : ((k : Nat) : Int) = 0 := by omega
            go_wp2_with fail
            go_ret
            exact ⟨by rw [HOP.out]; rw [decide_eq_true z1]; rw [decide_eq_true z2]; simp [opT, opB, m]; try rfl, HB.out⟩
          · have m1 : ((k : Nat) : Int) = 0 := by omega
            have y2 : ¬ x2.toList = [] := by
              have := str_ne_lit (l := []) z2
              simpa using this
            have v2 : (x2.toList == []) = false := str_ne_lit (l := []) z2
            have u2 : (x2.toList != []) = true := by simp [y2]
            go_wp2_with fail
            go_ret
            exact ⟨by rw [HOP.out]; rw [decide_eq_true z1]; rw [decide_eq_false z2]; simp [opT, opB, m, y2, v2]; try rfl, HB.out⟩
        · have m1 : ((k : Nat) : Int) = 0 := by omega
          have y1 : ¬ x1.toList = [] := by
            have := str_ne_lit (l := []) z1
            simpa using this
          have v1 : (x1.toList == []) = false := str_ne_lit (l := []) z1
          have u1 : (x1.toList != []) = true := by simp [y1]
          go_wp2_with fail
          go_ret
          exact ⟨by rw [HOP.out]; rw [decide_eq_false z1]; simp [opT, opB, m, y1, v1]; try rfl, HB.out⟩
      | false =>
        have m1 : ((k : Nat) : Int) = 0 := by omega
        go_wp2_with fail
        go_ret
        exact ⟨by rw [HOP.out]; simp [opT, opB, m]; try rfl, HB.out⟩
    · have m1 : ¬ ((k : Nat) : Int) = 0 := by omega
      go_wp2_with fail
      go_ret
      exact ⟨by rw [HOP.out]; simp [opT, opB, m]; try rfl, HB.out⟩
  go_wp2_with fail
  go_ret
  exact ⟨by rw [HOP.out]; simp [opT, opB, o1, o2, o3, o4, o5, o0]; try rfl, HB.out⟩
end Go.Proofs.Ytjfkgiflakfjfaa
