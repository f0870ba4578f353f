/- What both have, what one has, what the first has alone; the live question. -/
import Derived.Test.YtohdkidfhohmlaaX
import Derived.Test.YtohdkidfhohmlaaY
namespace Go.Proofs.Ytohdkidfhohmlaa
open Go.RowKit
set_option linter.unusedSimpArgs false
set_option linter.unusedVariables false
set_option maxRecDepth 100000 in
set_option maxHeartbeats 1000000 in
theorem and_any (A1 A2 : Option Addr) (m1 c1 m2 c2 : Nat) (X Y : List (Int × Int)) (w : World) (hA1 : Row w A1 (cellsP X)) (hA2 : Row w A2 (cellsP Y)) (hm1 : m1 = X.length) (hm2 : m2 = Y.length) (hc1 : m1 ≤ c1) (hc2 : m2 ≤ c2)
    (hX : rightB (-1) X = true) (hY : rightB (-1) Y = true) :
    Calls Try.prog 28 #[.slice A1 m1 c1, .slice A2 m2 c2] w (BothPost TT w X Y) := by
  have HC := Lib.hid (and_both A1 A2 m1 c1 m2 c2 X Y w hA1 hA2 hm1 hm2 hc1 hc2 hX hY)
  clear hA1 hA2 hm1 hm2 hc1 hc2 hX hY
  go_enter Try.func28, Try.ntmps28
  go_wp2_with fail
  refine HC.out.mono ?_
  rintro e w1 ⟨L, A, c, rfl, hr, hl, h1, h2, hB⟩
  have H := Lib.hid (And.intro hr (And.intro hl (And.intro h1 (And.intro h2 hB))))
  clear hr hl h1 h2 hB
  go_wp2_with fail
  go_ret
  exact ⟨L, A, c, rfl, H.out.1, H.out.2.1, H.out.2.2.1, H.out.2.2.2.1, H.out.2.2.2.2⟩
set_option maxRecDepth 100000 in
set_option maxHeartbeats 1000000 in
theorem or_any (A1 A2 : Option Addr) (m1 c1 m2 c2 : Nat) (X Y : List (Int × Int)) (w : World) (hA1 : Row w A1 (cellsP X)) (hA2 : Row w A2 (cellsP Y)) (hm1 : m1 = X.length) (hm2 : m2 = Y.length) (hc1 : m1 ≤ c1) (hc2 : m2 ≤ c2)
    (hX : rightB (-1) X = true) (hY : rightB (-1) Y = true) :
    Calls Try.prog 30 #[.slice A1 m1 c1, .slice A2 m2 c2] w (BothPost TO w X Y) := by
  have HC := Lib.hid (or_both A1 A2 m1 c1 m2 c2 X Y w hA1 hA2 hm1 hm2 hc1 hc2 hX hY)
  clear hA1 hA2 hm1 hm2 hc1 hc2 hX hY
  go_enter Try.func30, Try.ntmps30
  go_wp2_with fail
  refine HC.out.mono ?_
  rintro e w1 ⟨L, A, c, rfl, hr, hl, h1, h2, hB⟩
  have H := Lib.hid (And.intro hr (And.intro hl (And.intro h1 (And.intro h2 hB))))
  clear hr hl h1 h2 hB
  go_wp2_with fail
  go_ret
  exact ⟨L, A, c, rfl, H.out.1, H.out.2.1, H.out.2.2.1, H.out.2.2.2.1, H.out.2.2.2.2⟩
set_option maxRecDepth 100000 in
set_option maxHeartbeats 1000000 in
theorem minus_any (A1 A2 : Option Addr) (m1 c1 m2 c2 : Nat) (X Y : List (Int × Int)) (w : World) (hA1 : Row w A1 (cellsP X)) (hA2 : Row w A2 (cellsP Y)) (hm1 : m1 = X.length) (hm2 : m2 = Y.length) (hc1 : m1 ≤ c1) (hc2 : m2 ≤ c2)
    (hX : rightB (-1) X = true) (hY : rightB (-1) Y = true) :
    Calls Try.prog 32 #[.slice A1 m1 c1, .slice A2 m2 c2] w (BothPost TM w X Y) := by
  have HC := Lib.hid (minus_both A1 A2 m1 c1 m2 c2 X Y w hA1 hA2 hm1 hm2 hc1 hc2 hX hY)
  clear hA1 hA2 hm1 hm2 hc1 hc2 hX hY
  go_enter Try.func32, Try.ntmps32
  go_wp2_with fail
  refine HC.out.mono ?_
  rintro e w1 ⟨L, A, c, rfl, hr, hl, h1, h2, hB⟩
  have H := Lib.hid (And.intro hr (And.intro hl (And.intro h1 (And.intro h2 hB))))
  clear hr hl h1 h2 hB
  go_wp2_with fail
  go_ret
  exact ⟨L, A, c, rfl, H.out.1, H.out.2.1, H.out.2.2.1, H.out.2.2.2.1, H.out.2.2.2.2⟩
/-- A new set is answered, and its room. -/
def SetPost2 (w : World) (L : List (Int × Int)) (e : Ending) (w' : World) : Prop := ∃ A c, e = .returned (.slice A L.length c) ∧ Row w' A (cellsP L) ∧ L.length ≤ c ∧ Below w.heap.size w w'
set_option maxRecDepth 100000 in
set_option maxHeartbeats 1000000 in
theorem upto_any2 (x : Int) (w : World) : Calls Try.prog 34 #[.int .i64 x] w (SetPost2 w (uptoL x)) := by
  by_cases h0 : x ≤ 0
  · have hm : ¬ 65536 < x := by omega
    have HU := Lib.hid (show uptoL x = [] by rw [uptoL, if_pos h0])
    rw [HU.out]
    go_enter Try.func34, Try.ntmps34
    go_wp2_with fail
    go_ret
    exact ⟨none, 0, rfl, .inl rfl, Nat.le_refl _, Below.refl _ _⟩
  · by_cases h1 : x ≤ 65536
    · have hm : ¬ 65536 < x := by omega
      have HU := Lib.hid (show uptoL x = [(0, x)] by rw [uptoL, if_neg h0, if_pos h1])
      rw [HU.out]
      go_enter Try.func34, Try.ntmps34
      go_wp2_with fail
      go_ret
      exact ⟨some ⟨w.heap.size, 0, none⟩, 1, rfl, Row.made rfl (by first | (rw [Int.min_eq_left (by omega)]; rfl) | (rw [Int.min_eq_right (by omega)]; rfl)), Nat.le_refl _, bpush (Below.refl _ _) _⟩
    · have hm : 65536 < x := by omega
      have HU := Lib.hid (show uptoL x = [(0, 65536)] by rw [uptoL, if_neg h0, if_neg h1])
      rw [HU.out]
      go_enter Try.func34, Try.ntmps34
      go_wp2_with fail
      go_ret
      exact ⟨some ⟨w.heap.size, 0, none⟩, 1, rfl, Row.made rfl (by first | (rw [Int.min_eq_left (by omega)]; rfl) | (rw [Int.min_eq_right (by omega)]; rfl)), Nat.le_refl _, bpush (Below.refl _ _) _⟩
theorem alive_set {L : List (Int × Int)} (h1 : rightB (-1) L = true) (h2 : ∀ x, hasB x L = decide (x ∈ [(5 : Int), 3, 4, 9, 3])) : L = [(3, 6), (9, 10)] := by
  refine right_ext h1 (by decide) (fun x => ?_)
  rw [h2, hasB, hasB, hasB, Bool.eq_iff_iff]
  simp only [decide_eq_true_eq, List.mem_cons, List.not_mem_nil, or_false]
  split
  · simp; omega
  · split
    · simp; omega
    · simp; omega
theorem alive_both {L : List (Int × Int)} (h1 : rightB (-1) L = true) (h2 : ∀ x, hasB x L = TT (hasB x [(3, 6), (9, 10)]) (hasB x [(0, 4)])) : L = [(3, 4)] := by
  refine right_ext h1 (by decide) (fun x => ?_)
  rw [h2, hasB, hasB, hasB, hasB, hasB, hasB, Bool.eq_iff_iff]
  unfold TT
  by_cases a1 : 3 ≤ x ∧ x < 6
  · rw [if_pos a1]
    by_cases a2 : 0 ≤ x ∧ x < 4
    · rw [if_pos a2, if_pos (by omega)]; simp
    · rw [if_neg a2, if_neg (by omega)]; simp [hasB]
  · rw [if_neg a1, if_neg (show ¬ (3 ≤ x ∧ x < 4) by omega)]
    by_cases a2 : 9 ≤ x ∧ x < 10
    · rw [if_pos a2, if_neg (show ¬ (0 ≤ x ∧ x < 4) by omega)]; simp [hasB]
    · rw [if_neg a2]; simp [hasB]
theorem alive_row {w : World} : Row (w.alloc (.cells #[.int .i64 5, .int .i64 3, .int .i64 4, .int .i64 9, .int .i64 3] 3)) (some ⟨w.heap.size, 0, none⟩) ([(5 : Int), 3, 4, 9, 3].map (Value.int .i64)) := Row.made rfl rfl
set_option maxRecDepth 100000 in
set_option maxHeartbeats 2000000 in
theorem alive_any (w : World) : Calls Try.prog 10 #[] w fun e w' => e = .returned (.bool true) ∧ Below w.heap.size w w' := by
  go_enter Try.func10, Try.ntmps10
  go_wp2_with fail
  refine (of_any _ 5 _ [5, 3, 4, 9, 3] _ alive_row rfl (by omega) (by intro x hx; simp at hx; omega)).mono ?_
  rintro e w1 ⟨hB1, ⟨_, L, A, c, rfl, hr1, hl1, h1, h2⟩ | ⟨hno, _⟩⟩
  · have hL := alive_set h1 h2
    subst hL
    have HB1 := Lib.hid (bthen (bpush (Below.refl _ w) _) hB1)
    have HR1 : Hid (Row w1 A (cellsP [(3, 6), (9, 10)])) := Lib.hid hr1
    have HL1 : Hid (2 ≤ c) := Lib.hid hl1
    clear h1 h2 hB1 hr1 hl1
    go_wp2_with fail
    refine (select_any A 2 c 3 [(3, 6), (9, 10)] _ HR1.out rfl (by omega) (by decide) (by omega) (by omega)).mono ?_
    rintro e w2 ⟨rfl, hB2⟩
    rw [show selF 3 [(3, 6), (9, 10)] = (9, true) by decide]
    have HR2 := Lib.hid (HR1.out.keep (Nat.le_refl _) hB2)
    have HB2 := Lib.hid (bthen HB1.out hB2)
    clear hB2
    go_wp2_with fail
    refine (same_yes A (some ⟨w2.heap.size, 0, none⟩) 2 c 2 2 [(3, 6), (9, 10)] _ (HR2.out.keep (Nat.le_refl _) (bpush (Below.refl _ _) _)) (Row.made rfl rfl) rfl rfl (by omega)).mono ?_
    rintro e w3 ⟨rfl, hB3⟩
    have HB23 := Lib.hid (bthen (bpush (Below.refl _ w2) _) hB3)
    have HR3 := Lib.hid (HR2.out.keep (Nat.le_refl _) HB23.out)
    have HB3 := Lib.hid (bthen HB2.out HB23.out)
    clear hB3
    go_wp2_with fail
    refine (rank_any A 2 c 5 [(3, 6), (9, 10)] _ HR3.out rfl (by omega) (by decide)).mono ?_
    rintro e w4 ⟨rfl, hB4⟩
    rw [show rankZ 5 [(3, 6), (9, 10)] = 2 by decide]
    have HR4 := Lib.hid (HR3.out.keep (Nat.le_refl _) hB4)
    have HB4 := Lib.hid (bthen HB3.out hB4)
    clear hB4
    go_wp2_with fail
    refine (upto_any2 4 _).mono ?_
    rintro e w5 ⟨A5, c5, rfl, hr5, hl5, hB5⟩
    have HR5 : Hid (Row w5 A5 (cellsP [(0, 4)])) := Lib.hid hr5
    have HL5 : Hid (1 ≤ c5) := Lib.hid hl5
    have HR6 := Lib.hid (HR4.out.keep (Nat.le_refl _) hB5)
    have HB5 := Lib.hid (bthen HB4.out hB5)
    clear hB5 hr5 hl5
    rw [show uptoL 4 = [(0, 4)] by decide]
    go_wp2_with fail
    refine (and_any A A5 2 c 1 c5 [(3, 6), (9, 10)] [(0, 4)] _ HR6.out HR5.out rfl rfl HL1.out HL5.out (by decide) (by decide)).mono ?_
    rintro e w6 ⟨L6, A6, c6, rfl, hr6, hl6, g1, g2, hB6⟩
    have hL6 := alive_both g1 g2
    subst hL6
    have HR7 : Hid (Row w6 A6 (cellsP [(3, 4)])) := Lib.hid hr6
    have HB6 := Lib.hid (bthen HB5.out hB6)
    clear g1 g2 hr6 hl6 hB6
    go_wp2_with fail
    refine (same_yes A6 (some ⟨w6.heap.size, 0, none⟩) 1 c6 1 1 [(3, 4)] _ (HR7.out.keep (Nat.le_refl _) (bpush (Below.refl _ _) _)) (Row.made rfl rfl) rfl rfl (by omega)).mono ?_
    rintro e w7 ⟨rfl, hB7⟩
    have HB7 := Lib.hid (bthen HB6.out (bthen (bpush (Below.refl _ w6) _) hB7))
    clear hB7
    go_wp2_with fail
    go_ret
    exact ⟨rfl, HB7.out⟩
  · exact absurd (by intro x hx; simp at hx; omega) hno
end Go.Proofs.Ytohdkidfhohmlaa
