/- The law RunsUpto: its walk, given alive. -/
import Derived.Test.YtohdkidfhohmlaaG
namespace Go.Proofs.Ytohdkidfhohmlaa
open Go.RowKit
set_option linter.unusedSimpArgs false
set_option linter.unusedVariables false
theorem upto_len (n : Int) : (uptoL n).length ≤ 1 := by unfold uptoL; split <;> simp
theorem upto_rank0 {n : Int} (h : n ≤ 0) : rankZ 65536 (uptoL n) = 0 := by rw [uptoL, if_pos h]; rfl
theorem upto_rank1 {n : Int} (h : ¬ n ≤ 0) (h1 : n ≤ 65536) : rankZ 65536 (uptoL n) = n := by
  rw [uptoL, if_neg h, if_pos h1, rankZ, if_pos (by show (0 : Int) < 65536; omega)]
  show min n 65536 - 0 + 0 = n; omega
theorem upto_rank2 {n : Int} (h : ¬ n ≤ 0) (h1 : ¬ n ≤ 65536) : rankZ 65536 (uptoL n) = 65536 := by
  rw [uptoL, if_neg h, if_neg h1, rankZ, if_pos (by show (0 : Int) < 65536; omega)]; rfl
theorem upto_has (n x : Int) : hasB x (uptoL n) = decide (0 ≤ x ∧ x < n ∧ x < 65536) := by
  unfold uptoL
  by_cases h : n ≤ 0
  · rw [if_pos h, hasB]; symm; rw [decide_eq_false_iff_not]; omega
  · rw [if_neg h, hasB]
    by_cases h2 : 0 ≤ x ∧ x < n ∧ x < 65536
    · rw [if_pos (by show 0 ≤ x ∧ x < (if n ≤ 65536 then n else 65536); split <;> omega), decide_eq_true h2]
    · rw [if_neg (by show ¬ (0 ≤ x ∧ x < (if n ≤ 65536 then n else 65536)); split <;> omega), decide_eq_false h2]; rfl
set_option maxRecDepth 100000 in
set_option maxHeartbeats 2000000 in
theorem upto_law (halive : ∀ w, Calls Try.prog 10 #[] w fun e w' => e = .returned (.bool true) ∧ Below w.heap.size w w') (n x : Int) (w : World) :
    Calls Try.prog 8 #[.int .i64 n, .int .i64 x] w fun e w' => e = .returned (.bool true) ∧ Below w.heap.size w w' := by
  have HAL := Lib.hid halive
  clear halive
  obtain ⟨L, hL⟩ : ∃ L, L = uptoL n := ⟨_, rfl⟩
  obtain ⟨k, hk⟩ : ∃ k, k = L.length := ⟨_, rfl⟩
  have hk1 : k ≤ 1000000 := by rw [hk, hL]; have := upto_len n; omega
  have HK := Lib.hid hk
  have HL := Lib.hid hL
  have HRT := Lib.hid (show rightB (-1) L = true by rw [hL]; exact upto_right n)
  obtain ⟨V, hV⟩ : ∃ V, rankZ 65536 L = V := ⟨_, rfl⟩
  obtain ⟨B, hB⟩ : ∃ B, hasB x L = B := ⟨_, rfl⟩
  have HV := Lib.hid hV
  have HB := Lib.hid hB
  have hB2 : B = decide (0 ≤ x ∧ x < n ∧ x < 65536) := by rw [← hB, hL]; exact upto_has n x
  rw [hL] at hV
  clear hL hk hB
  by_cases hn0 : n ≤ 0
  · obtain rfl : V = 0 := by rw [← hV]; exact upto_rank0 hn0
    have hmx : ¬ 0 < n := by omega
    clear hV
    by_cases hx0 : x < 0
    · obtain rfl : B = false := by rw [hB2, decide_eq_false_iff_not]; omega
      have hd1 : decide (0 ≤ x) = false := by simp; omega
      clear hB2
      go_enter Try.func8, Try.ntmps8
      go_wp2_with fail
      refine (upto_any n _).mono ?_
      rintro e w1 ⟨A, c, rfl, hrow, hB1⟩
      rw [← HL.out] at hrow ⊢
      rw [← HK.out]
      have HB1 := Lib.hid hB1
      clear hB1
      go_wp2_with fail
      refine (HAL.out _).mono ?_
      rintro e w2 ⟨rfl, hB2⟩
      have hrow2 := hrow.keep (Nat.le_refl _) hB2
      have HB2 := Lib.hid (bthen HB1.out hB2)
      clear hrow hB2
      go_wp2_with fail
      refine (right_any A k c L _ hrow2 HK.out (by omega)).mono ?_
      rintro e w3 ⟨rfl, hB3⟩
      rw [HRT.out]
      have hrow3 := hrow2.keep (Nat.le_refl _) hB3
      have HB3 := Lib.hid (bthen HB2.out hB3)
      clear hrow2 hB3
      go_wp2_with fail
      refine (count_any A k c L _ hrow3 HK.out hk1 HRT.out).mono ?_
      rintro e w4 ⟨rfl, hB4⟩
      rw [HV.out]
      have hrow4 := hrow3.keep (Nat.le_refl _) hB4
      have HB4 := Lib.hid (bthen HB3.out hB4)
      clear hrow3 hB4
      go_wp2_with fail
      all_goals
        refine (has_any A k c x L _ hrow4 HK.out (by omega)).mono ?_
        rintro e w5 ⟨rfl, hB5⟩
        rw [HB.out]
        have HB5 := Lib.hid (bthen HB4.out hB5)
        clear hrow4 hB5
        go_wp2_with fail
        all_goals
          go_ret
          exact ⟨rfl, HB5.out⟩
    · have hd1 : decide (0 ≤ x) = true := by simp; omega
      by_cases hxn : x < n
      · have hd2 : decide (x < n) = true := by simp; omega
        by_cases hxm : x < 65536
        · obtain rfl : B = true := by rw [hB2, decide_eq_true_iff]; omega
          have hd3 : decide (x < 65536) = true := by simp; omega
          clear hB2
          go_enter Try.func8, Try.ntmps8
          go_wp2_with fail
          refine (upto_any n _).mono ?_
          rintro e w1 ⟨A, c, rfl, hrow, hB1⟩
          rw [← HL.out] at hrow ⊢
          rw [← HK.out]
          have HB1 := Lib.hid hB1
          clear hB1
          go_wp2_with fail
          refine (HAL.out _).mono ?_
          rintro e w2 ⟨rfl, hB2⟩
          have hrow2 := hrow.keep (Nat.le_refl _) hB2
          have HB2 := Lib.hid (bthen HB1.out hB2)
          clear hrow hB2
          go_wp2_with fail
          refine (right_any A k c L _ hrow2 HK.out (by omega)).mono ?_
          rintro e w3 ⟨rfl, hB3⟩
          rw [HRT.out]
          have hrow3 := hrow2.keep (Nat.le_refl _) hB3
          have HB3 := Lib.hid (bthen HB2.out hB3)
          clear hrow2 hB3
          go_wp2_with fail
          refine (count_any A k c L _ hrow3 HK.out hk1 HRT.out).mono ?_
          rintro e w4 ⟨rfl, hB4⟩
          rw [HV.out]
          have hrow4 := hrow3.keep (Nat.le_refl _) hB4
          have HB4 := Lib.hid (bthen HB3.out hB4)
          clear hrow3 hB4
          go_wp2_with fail
          all_goals
            refine (has_any A k c x L _ hrow4 HK.out (by omega)).mono ?_
            rintro e w5 ⟨rfl, hB5⟩
            rw [HB.out]
            have HB5 := Lib.hid (bthen HB4.out hB5)
            clear hrow4 hB5
            go_wp2_with fail
            all_goals
              go_ret
              exact ⟨rfl, HB5.out⟩
        · obtain rfl : B = false := by rw [hB2, decide_eq_false_iff_not]; omega
          have hd3 : decide (x < 65536) = false := by simp; omega
          clear hB2
          go_enter Try.func8, Try.ntmps8
          go_wp2_with fail
          refine (upto_any n _).mono ?_
          rintro e w1 ⟨A, c, rfl, hrow, hB1⟩
          rw [← HL.out] at hrow ⊢
          rw [← HK.out]
          have HB1 := Lib.hid hB1
          clear hB1
          go_wp2_with fail
          refine (HAL.out _).mono ?_
          rintro e w2 ⟨rfl, hB2⟩
          have hrow2 := hrow.keep (Nat.le_refl _) hB2
          have HB2 := Lib.hid (bthen HB1.out hB2)
          clear hrow hB2
          go_wp2_with fail
          refine (right_any A k c L _ hrow2 HK.out (by omega)).mono ?_
          rintro e w3 ⟨rfl, hB3⟩
          rw [HRT.out]
          have hrow3 := hrow2.keep (Nat.le_refl _) hB3
          have HB3 := Lib.hid (bthen HB2.out hB3)
          clear hrow2 hB3
          go_wp2_with fail
          refine (count_any A k c L _ hrow3 HK.out hk1 HRT.out).mono ?_
          rintro e w4 ⟨rfl, hB4⟩
          rw [HV.out]
          have hrow4 := hrow3.keep (Nat.le_refl _) hB4
          have HB4 := Lib.hid (bthen HB3.out hB4)
          clear hrow3 hB4
          go_wp2_with fail
          all_goals
            refine (has_any A k c x L _ hrow4 HK.out (by omega)).mono ?_
            rintro e w5 ⟨rfl, hB5⟩
            rw [HB.out]
            have HB5 := Lib.hid (bthen HB4.out hB5)
            clear hrow4 hB5
            go_wp2_with fail
            all_goals
              go_ret
              exact ⟨rfl, HB5.out⟩
      · obtain rfl : B = false := by rw [hB2, decide_eq_false_iff_not]; omega
        have hd2 : decide (x < n) = false := by simp; omega
        clear hB2
        go_enter Try.func8, Try.ntmps8
        go_wp2_with fail
        refine (upto_any n _).mono ?_
        rintro e w1 ⟨A, c, rfl, hrow, hB1⟩
        rw [← HL.out] at hrow ⊢
        rw [← HK.out]
        have HB1 := Lib.hid hB1
        clear hB1
        go_wp2_with fail
        refine (HAL.out _).mono ?_
        rintro e w2 ⟨rfl, hB2⟩
        have hrow2 := hrow.keep (Nat.le_refl _) hB2
        have HB2 := Lib.hid (bthen HB1.out hB2)
        clear hrow hB2
        go_wp2_with fail
        refine (right_any A k c L _ hrow2 HK.out (by omega)).mono ?_
        rintro e w3 ⟨rfl, hB3⟩
        rw [HRT.out]
        have hrow3 := hrow2.keep (Nat.le_refl _) hB3
        have HB3 := Lib.hid (bthen HB2.out hB3)
        clear hrow2 hB3
        go_wp2_with fail
        refine (count_any A k c L _ hrow3 HK.out hk1 HRT.out).mono ?_
        rintro e w4 ⟨rfl, hB4⟩
        rw [HV.out]
        have hrow4 := hrow3.keep (Nat.le_refl _) hB4
        have HB4 := Lib.hid (bthen HB3.out hB4)
        clear hrow3 hB4
        go_wp2_with fail
        all_goals
          refine (has_any A k c x L _ hrow4 HK.out (by omega)).mono ?_
          rintro e w5 ⟨rfl, hB5⟩
          rw [HB.out]
          have HB5 := Lib.hid (bthen HB4.out hB5)
          clear hrow4 hB5
          go_wp2_with fail
          all_goals
            go_ret
            exact ⟨rfl, HB5.out⟩
  · have hmx : 0 < n := by omega
    by_cases hn1 : n ≤ 65536
    · have hVn : V = n := by rw [← hV]; exact upto_rank1 hn0 hn1
      subst hVn
      have hmy : ¬ 65536 < V := by omega
      clear hV
      by_cases hx0 : x < 0
      · obtain rfl : B = false := by rw [hB2, decide_eq_false_iff_not]; omega
        have hd1 : decide (0 ≤ x) = false := by simp; omega
        clear hB2
        go_enter Try.func8, Try.ntmps8
        go_wp2_with fail
        refine (upto_any V _).mono ?_
        rintro e w1 ⟨A, c, rfl, hrow, hB1⟩
        rw [← HL.out] at hrow ⊢
        rw [← HK.out]
        have HB1 := Lib.hid hB1
        clear hB1
        go_wp2_with fail
        refine (HAL.out _).mono ?_
        rintro e w2 ⟨rfl, hB2⟩
        have hrow2 := hrow.keep (Nat.le_refl _) hB2
        have HB2 := Lib.hid (bthen HB1.out hB2)
        clear hrow hB2
        go_wp2_with fail
        refine (right_any A k c L _ hrow2 HK.out (by omega)).mono ?_
        rintro e w3 ⟨rfl, hB3⟩
        rw [HRT.out]
        have hrow3 := hrow2.keep (Nat.le_refl _) hB3
        have HB3 := Lib.hid (bthen HB2.out hB3)
        clear hrow2 hB3
        go_wp2_with fail
        refine (count_any A k c L _ hrow3 HK.out hk1 HRT.out).mono ?_
        rintro e w4 ⟨rfl, hB4⟩
        rw [HV.out]
        have hrow4 := hrow3.keep (Nat.le_refl _) hB4
        have HB4 := Lib.hid (bthen HB3.out hB4)
        clear hrow3 hB4
        go_wp2_with fail
        all_goals
          refine (has_any A k c x L _ hrow4 HK.out (by omega)).mono ?_
          rintro e w5 ⟨rfl, hB5⟩
          rw [HB.out]
          have HB5 := Lib.hid (bthen HB4.out hB5)
          clear hrow4 hB5
          go_wp2_with fail
          all_goals
            go_ret
            exact ⟨rfl, HB5.out⟩
      · have hd1 : decide (0 ≤ x) = true := by simp; omega
        by_cases hxn : x < V
        · have hd2 : decide (x < V) = true := by simp; omega
          by_cases hxm : x < 65536
          · obtain rfl : B = true := by rw [hB2, decide_eq_true_iff]; omega
            have hd3 : decide (x < 65536) = true := by simp; omega
            clear hB2
            go_enter Try.func8, Try.ntmps8
            go_wp2_with fail
            refine (upto_any V _).mono ?_
            rintro e w1 ⟨A, c, rfl, hrow, hB1⟩
            rw [← HL.out] at hrow ⊢
            rw [← HK.out]
            have HB1 := Lib.hid hB1
            clear hB1
            go_wp2_with fail
            refine (HAL.out _).mono ?_
            rintro e w2 ⟨rfl, hB2⟩
            have hrow2 := hrow.keep (Nat.le_refl _) hB2
            have HB2 := Lib.hid (bthen HB1.out hB2)
            clear hrow hB2
            go_wp2_with fail
            refine (right_any A k c L _ hrow2 HK.out (by omega)).mono ?_
            rintro e w3 ⟨rfl, hB3⟩
            rw [HRT.out]
            have hrow3 := hrow2.keep (Nat.le_refl _) hB3
            have HB3 := Lib.hid (bthen HB2.out hB3)
            clear hrow2 hB3
            go_wp2_with fail
            refine (count_any A k c L _ hrow3 HK.out hk1 HRT.out).mono ?_
            rintro e w4 ⟨rfl, hB4⟩
            rw [HV.out]
            have hrow4 := hrow3.keep (Nat.le_refl _) hB4
            have HB4 := Lib.hid (bthen HB3.out hB4)
            clear hrow3 hB4
            go_wp2_with fail
            all_goals
              refine (has_any A k c x L _ hrow4 HK.out (by omega)).mono ?_
              rintro e w5 ⟨rfl, hB5⟩
              rw [HB.out]
              have HB5 := Lib.hid (bthen HB4.out hB5)
              clear hrow4 hB5
              go_wp2_with fail
              all_goals
                go_ret
                exact ⟨rfl, HB5.out⟩
          · obtain rfl : B = false := by rw [hB2, decide_eq_false_iff_not]; omega
            have hd3 : decide (x < 65536) = false := by simp; omega
            clear hB2
            go_enter Try.func8, Try.ntmps8
            go_wp2_with fail
            refine (upto_any V _).mono ?_
            rintro e w1 ⟨A, c, rfl, hrow, hB1⟩
            rw [← HL.out] at hrow ⊢
            rw [← HK.out]
            have HB1 := Lib.hid hB1
            clear hB1
            go_wp2_with fail
            refine (HAL.out _).mono ?_
            rintro e w2 ⟨rfl, hB2⟩
            have hrow2 := hrow.keep (Nat.le_refl _) hB2
            have HB2 := Lib.hid (bthen HB1.out hB2)
            clear hrow hB2
            go_wp2_with fail
            refine (right_any A k c L _ hrow2 HK.out (by omega)).mono ?_
            rintro e w3 ⟨rfl, hB3⟩
            rw [HRT.out]
            have hrow3 := hrow2.keep (Nat.le_refl _) hB3
            have HB3 := Lib.hid (bthen HB2.out hB3)
            clear hrow2 hB3
            go_wp2_with fail
            refine (count_any A k c L _ hrow3 HK.out hk1 HRT.out).mono ?_
            rintro e w4 ⟨rfl, hB4⟩
            rw [HV.out]
            have hrow4 := hrow3.keep (Nat.le_refl _) hB4
            have HB4 := Lib.hid (bthen HB3.out hB4)
            clear hrow3 hB4
            go_wp2_with fail
            all_goals
              refine (has_any A k c x L _ hrow4 HK.out (by omega)).mono ?_
              rintro e w5 ⟨rfl, hB5⟩
              rw [HB.out]
              have HB5 := Lib.hid (bthen HB4.out hB5)
              clear hrow4 hB5
              go_wp2_with fail
              all_goals
                go_ret
                exact ⟨rfl, HB5.out⟩
        · obtain rfl : B = false := by rw [hB2, decide_eq_false_iff_not]; omega
          have hd2 : decide (x < V) = false := by simp; omega
          clear hB2
          go_enter Try.func8, Try.ntmps8
          go_wp2_with fail
          refine (upto_any V _).mono ?_
          rintro e w1 ⟨A, c, rfl, hrow, hB1⟩
          rw [← HL.out] at hrow ⊢
          rw [← HK.out]
          have HB1 := Lib.hid hB1
          clear hB1
          go_wp2_with fail
          refine (HAL.out _).mono ?_
          rintro e w2 ⟨rfl, hB2⟩
          have hrow2 := hrow.keep (Nat.le_refl _) hB2
          have HB2 := Lib.hid (bthen HB1.out hB2)
          clear hrow hB2
          go_wp2_with fail
          refine (right_any A k c L _ hrow2 HK.out (by omega)).mono ?_
          rintro e w3 ⟨rfl, hB3⟩
          rw [HRT.out]
          have hrow3 := hrow2.keep (Nat.le_refl _) hB3
          have HB3 := Lib.hid (bthen HB2.out hB3)
          clear hrow2 hB3
          go_wp2_with fail
          refine (count_any A k c L _ hrow3 HK.out hk1 HRT.out).mono ?_
          rintro e w4 ⟨rfl, hB4⟩
          rw [HV.out]
          have hrow4 := hrow3.keep (Nat.le_refl _) hB4
          have HB4 := Lib.hid (bthen HB3.out hB4)
          clear hrow3 hB4
          go_wp2_with fail
          all_goals
            refine (has_any A k c x L _ hrow4 HK.out (by omega)).mono ?_
            rintro e w5 ⟨rfl, hB5⟩
            rw [HB.out]
            have HB5 := Lib.hid (bthen HB4.out hB5)
            clear hrow4 hB5
            go_wp2_with fail
            all_goals
              go_ret
              exact ⟨rfl, HB5.out⟩
    · have hmy : 65536 < n := by omega
      obtain rfl : V = 65536 := by rw [← hV]; exact upto_rank2 hn0 hn1
      clear hV
      by_cases hx0 : x < 0
      · obtain rfl : B = false := by rw [hB2, decide_eq_false_iff_not]; omega
        have hd1 : decide (0 ≤ x) = false := by simp; omega
        clear hB2
        go_enter Try.func8, Try.ntmps8
        go_wp2_with fail
        refine (upto_any n _).mono ?_
        rintro e w1 ⟨A, c, rfl, hrow, hB1⟩
        rw [← HL.out] at hrow ⊢
        rw [← HK.out]
        have HB1 := Lib.hid hB1
        clear hB1
        go_wp2_with fail
        refine (HAL.out _).mono ?_
        rintro e w2 ⟨rfl, hB2⟩
        have hrow2 := hrow.keep (Nat.le_refl _) hB2
        have HB2 := Lib.hid (bthen HB1.out hB2)
        clear hrow hB2
        go_wp2_with fail
        refine (right_any A k c L _ hrow2 HK.out (by omega)).mono ?_
        rintro e w3 ⟨rfl, hB3⟩
        rw [HRT.out]
        have hrow3 := hrow2.keep (Nat.le_refl _) hB3
        have HB3 := Lib.hid (bthen HB2.out hB3)
        clear hrow2 hB3
        go_wp2_with fail
        refine (count_any A k c L _ hrow3 HK.out hk1 HRT.out).mono ?_
        rintro e w4 ⟨rfl, hB4⟩
        rw [HV.out]
        have hrow4 := hrow3.keep (Nat.le_refl _) hB4
        have HB4 := Lib.hid (bthen HB3.out hB4)
        clear hrow3 hB4
        go_wp2_with fail
        all_goals
          refine (has_any A k c x L _ hrow4 HK.out (by omega)).mono ?_
          rintro e w5 ⟨rfl, hB5⟩
          rw [HB.out]
          have HB5 := Lib.hid (bthen HB4.out hB5)
          clear hrow4 hB5
          go_wp2_with fail
          all_goals
            go_ret
            exact ⟨rfl, HB5.out⟩
      · have hd1 : decide (0 ≤ x) = true := by simp; omega
        by_cases hxn : x < n
        · have hd2 : decide (x < n) = true := by simp; omega
          by_cases hxm : x < 65536
          · obtain rfl : B = true := by rw [hB2, decide_eq_true_iff]; omega
            have hd3 : decide (x < 65536) = true := by simp; omega
            clear hB2
            go_enter Try.func8, Try.ntmps8
            go_wp2_with fail
            refine (upto_any n _).mono ?_
            rintro e w1 ⟨A, c, rfl, hrow, hB1⟩
            rw [← HL.out] at hrow ⊢
            rw [← HK.out]
            have HB1 := Lib.hid hB1
            clear hB1
            go_wp2_with fail
            refine (HAL.out _).mono ?_
            rintro e w2 ⟨rfl, hB2⟩
            have hrow2 := hrow.keep (Nat.le_refl _) hB2
            have HB2 := Lib.hid (bthen HB1.out hB2)
            clear hrow hB2
            go_wp2_with fail
            refine (right_any A k c L _ hrow2 HK.out (by omega)).mono ?_
            rintro e w3 ⟨rfl, hB3⟩
            rw [HRT.out]
            have hrow3 := hrow2.keep (Nat.le_refl _) hB3
            have HB3 := Lib.hid (bthen HB2.out hB3)
            clear hrow2 hB3
            go_wp2_with fail
            refine (count_any A k c L _ hrow3 HK.out hk1 HRT.out).mono ?_
            rintro e w4 ⟨rfl, hB4⟩
            rw [HV.out]
            have hrow4 := hrow3.keep (Nat.le_refl _) hB4
            have HB4 := Lib.hid (bthen HB3.out hB4)
            clear hrow3 hB4
            go_wp2_with fail
            all_goals
              refine (has_any A k c x L _ hrow4 HK.out (by omega)).mono ?_
              rintro e w5 ⟨rfl, hB5⟩
              rw [HB.out]
              have HB5 := Lib.hid (bthen HB4.out hB5)
              clear hrow4 hB5
              go_wp2_with fail
              all_goals
                go_ret
                exact ⟨rfl, HB5.out⟩
          · obtain rfl : B = false := by rw [hB2, decide_eq_false_iff_not]; omega
            have hd3 : decide (x < 65536) = false := by simp; omega
            clear hB2
            go_enter Try.func8, Try.ntmps8
            go_wp2_with fail
            refine (upto_any n _).mono ?_
            rintro e w1 ⟨A, c, rfl, hrow, hB1⟩
            rw [← HL.out] at hrow ⊢
            rw [← HK.out]
            have HB1 := Lib.hid hB1
            clear hB1
            go_wp2_with fail
            refine (HAL.out _).mono ?_
            rintro e w2 ⟨rfl, hB2⟩
            have hrow2 := hrow.keep (Nat.le_refl _) hB2
            have HB2 := Lib.hid (bthen HB1.out hB2)
            clear hrow hB2
            go_wp2_with fail
            refine (right_any A k c L _ hrow2 HK.out (by omega)).mono ?_
            rintro e w3 ⟨rfl, hB3⟩
            rw [HRT.out]
            have hrow3 := hrow2.keep (Nat.le_refl _) hB3
            have HB3 := Lib.hid (bthen HB2.out hB3)
            clear hrow2 hB3
            go_wp2_with fail
            refine (count_any A k c L _ hrow3 HK.out hk1 HRT.out).mono ?_
            rintro e w4 ⟨rfl, hB4⟩
            rw [HV.out]
            have hrow4 := hrow3.keep (Nat.le_refl _) hB4
            have HB4 := Lib.hid (bthen HB3.out hB4)
            clear hrow3 hB4
            go_wp2_with fail
            all_goals
              refine (has_any A k c x L _ hrow4 HK.out (by omega)).mono ?_
              rintro e w5 ⟨rfl, hB5⟩
              rw [HB.out]
              have HB5 := Lib.hid (bthen HB4.out hB5)
              clear hrow4 hB5
              go_wp2_with fail
              all_goals
                go_ret
                exact ⟨rfl, HB5.out⟩
        · obtain rfl : B = false := by rw [hB2, decide_eq_false_iff_not]; omega
          have hd2 : decide (x < n) = false := by simp; omega
          clear hB2
          go_enter Try.func8, Try.ntmps8
          go_wp2_with fail
          refine (upto_any n _).mono ?_
          rintro e w1 ⟨A, c, rfl, hrow, hB1⟩
          rw [← HL.out] at hrow ⊢
          rw [← HK.out]
          have HB1 := Lib.hid hB1
          clear hB1
          go_wp2_with fail
          refine (HAL.out _).mono ?_
          rintro e w2 ⟨rfl, hB2⟩
          have hrow2 := hrow.keep (Nat.le_refl _) hB2
          have HB2 := Lib.hid (bthen HB1.out hB2)
          clear hrow hB2
          go_wp2_with fail
          refine (right_any A k c L _ hrow2 HK.out (by omega)).mono ?_
          rintro e w3 ⟨rfl, hB3⟩
          rw [HRT.out]
          have hrow3 := hrow2.keep (Nat.le_refl _) hB3
          have HB3 := Lib.hid (bthen HB2.out hB3)
          clear hrow2 hB3
          go_wp2_with fail
          refine (count_any A k c L _ hrow3 HK.out hk1 HRT.out).mono ?_
          rintro e w4 ⟨rfl, hB4⟩
          rw [HV.out]
          have hrow4 := hrow3.keep (Nat.le_refl _) hB4
          have HB4 := Lib.hid (bthen HB3.out hB4)
          clear hrow3 hB4
          go_wp2_with fail
          all_goals
            refine (has_any A k c x L _ hrow4 HK.out (by omega)).mono ?_
            rintro e w5 ⟨rfl, hB5⟩
            rw [HB.out]
            have HB5 := Lib.hid (bthen HB4.out hB5)
            clear hrow4 hB5
            go_wp2_with fail
            all_goals
              go_ret
              exact ⟨rfl, HB5.out⟩
end Go.Proofs.Ytohdkidfhohmlaa
