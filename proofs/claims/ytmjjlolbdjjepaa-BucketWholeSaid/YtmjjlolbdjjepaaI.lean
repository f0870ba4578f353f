/- The law BucketShift: its walk. -/
import Derived.Test.YtmjjlolbdjjepaaH
namespace Go.Proofs.Ytmjjlolbdjjepaa
open Go.RowKit
set_option linter.unusedSimpArgs false
set_option linter.unusedVariables false
theorem and1023 (m : Int) : ∃ q : Nat, q ≤ 1023 ∧ bits .and .i64 m 1023 = (q : Int) := by
  refine ⟨(BitVec.ofInt 64 m &&& BitVec.ofInt 64 1023).toNat, ?_, ?_⟩
  · rw [BitVec.toNat_and]; exact Nat.and_le_right
  · have h : (BitVec.ofInt 64 m &&& BitVec.ofInt 64 1023).toNat ≤ 1023 := by rw [BitVec.toNat_and]; exact Nat.and_le_right
    show IntKind.i64.wrap ((BitVec.ofInt 64 m &&& BitVec.ofInt 64 1023).toNat : Int) = _
    rw [IntKind.wrap_i64]; omega
theorem flr_add (t g k : Int) : flr (t + k * g) g = flr t g + k * g := by
  unfold flr
  rw [Int.mul_comm k g, Int.add_mul_emod_self_left]; omega
theorem clg_neg {t g : Int} (hg : 1 ≤ g) : clg t g = - flr (-t) g := by
  rw [clg_eq hg]
  have e := Int.emod_add_mul_ediv t g
  have r0 := Int.emod_nonneg t (show g ≠ 0 by omega)
  have r1 := Int.emod_lt_of_pos t (show 0 < g by omega)
  obtain ⟨r, hr⟩ : ∃ r, r = t % g := ⟨_, rfl⟩
  obtain ⟨d, hd⟩ : ∃ d, d = t / g := ⟨_, rfl⟩
  rw [← hr, ← hd] at e
  rw [← hr] at r0 r1
  unfold flr
  rw [← hr]
  by_cases h0 : r = 0
  · have e2 : (-t) % g = 0 := by
      rw [show -t = 0 + g * (-d) by rw [Int.mul_neg]; omega, Int.add_mul_emod_self_left]; simp
    rw [e2, if_neg (by omega)]; omega
  · have e2 : (-t) % g = g - r := by
      rw [show -t = (g - r) + g * (-d - 1) by rw [Int.mul_sub, Int.mul_neg]; omega, Int.add_mul_emod_self_left, Int.emod_eq_of_lt (by omega) (by omega)]
    rw [e2, if_pos (by omega)]; omega
theorem flr_self {g m : Int} (hg : 1 ≤ g) : flr (g * m) g = g * m := by unfold flr; rw [Int.mul_emod_right]; omega
theorem pos_mul {g m : Int} (hg : 1 ≤ g) (K : Nat) : ∀ i, i ≤ K → pos g (g * m + g * (K : Int)) (g * m) i = g * (m + (i : Int)) := by
  intro i
  induction i with
  | zero => intro _; simp [pos]
  | succ i ih =>
    intro h
    have h1 := Int.mul_le_mul_of_nonneg_left (show ((i + 1 : Nat) : Int) ≤ (K : Int) by omega) (show 0 ≤ g by omega)
    rw [pos, ih (by omega)]
    unfold nxt
    rw [flr_self hg]
    have e1 : g * (m + (i : Int)) + g = g * (m + ((i + 1 : Nat) : Int)) := by rw [show m + ((i + 1 : Nat) : Int) = (m + (i : Int)) + 1 by omega, Int.mul_add g (m + (i : Int)) 1, Int.mul_one]
    have e2 : g * (m + ((i + 1 : Nat) : Int)) = g * m + g * ((i + 1 : Nat) : Int) := Int.mul_add _ _ _
    rw [e1]; omega
theorem ends_mul {g m : Int} (hg : 1 ≤ g) {K : Nat} (hK : K ≤ 999) : EndsAt g (g * m + g * (K : Int)) (g * m) K := by
  refine ⟨by omega, .inr ?_, fun i hi => ?_⟩
  · rw [pos_mul hg K K (Nat.le_refl _), Int.mul_add]; omega
  · rw [pos_mul hg K i (by omega), Int.mul_add]
    have := Int.mul_lt_mul_of_pos_left (show (i : Int) < (K : Int) by omega) (show 0 < g by omega)
    omega
set_option maxRecDepth 100000 in
set_option maxHeartbeats 4000000 in
theorem shift_main (t g m : Int) (w : World) (hg : okGran g) (ht1 : -1073741824 ≤ t) (ht2 : t ≤ 1073741824) :
    Calls Try.prog 7 #[.int .i64 t, .int .i64 g, .int .i64 m] w fun e w' => e = .returned (.bool true) ∧ Below w.heap.size w w' := by
  obtain ⟨q, hq, hqe⟩ := and1023 m
  have HG := Lib.hid hg
  obtain ⟨g1, g2⟩ := hg
  have hfb := flr_bd (t := t) g1
  obtain ⟨M, hM⟩ : ∃ M, M = t / g := ⟨_, rfl⟩
  obtain ⟨a, ha⟩ : ∃ a, a = flr t g := ⟨_, rfl⟩
  have haM : a = g * M := by rw [ha, hM, flr_mul]
  rw [← ha] at hfb
  obtain ⟨a1, a2⟩ := hfb
  obtain ⟨D, hD⟩ : ∃ D, D = flr (-t) g := ⟨_, rfl⟩
  have hDb := flr_bd (t := -t) g1
  rw [← hD] at hDb
  obtain ⟨d1, d2⟩ := hDb
  have HC := Lib.hid (show clg t g = -D by rw [hD]; exact clg_neg g1)
  have HA := Lib.hid ha
  have HD := Lib.hid hD
  have HAM := Lib.hid haM
  clear ha hD haM
  by_cases hq5 : q < 500
  · have n1 : -524288000 ≤ ((q : Int) - 500) * g := by
      have := Int.mul_le_mul_of_nonneg_right (show (-500 : Int) ≤ (q : Int) - 500 by omega) (show 0 ≤ g by omega)
      omega
    have n2 : ((q : Int) - 500) * g ≤ 0 := by
      have := Int.mul_le_mul_of_nonneg_right (show (q : Int) - 500 ≤ 0 by omega) (show 0 ≤ g by omega)
      omega
    have HFA := Lib.hid (show flr (t + ((q : Int) - 500) * g) g = a + ((q : Int) - 500) * g by rw [flr_add, HA.out])
    have HE := Lib.hid (show EndsAt g a a 0 from ⟨by omega, .inr (by show a ≤ a; omega), fun i hi => by omega⟩)
    go_enter Try.func7, Try.ntmps7
    go_wp2_with fail
    refine (right_yes _ _ HG.out).mono ?_
    rintro e w1 ⟨rfl, rfl⟩
    go_wp2_with fail
    refine (Floor_good t g _ ⟨HG.out, ⟨by omega, by omega⟩⟩).mono ?_
    rintro e w1 ⟨rfl, rfl⟩
    rw [← HA.out]
    go_wp2_with fail
    refine (Floor_good (t + ((q : Int) - 500) * g) g _ ⟨HG.out, ⟨by omega, by omega⟩⟩).mono ?_
    rintro e w1 ⟨rfl, rfl⟩
    rw [HFA.out]
    go_wp2_with fail
    refine (Ceil_good t g _ ⟨HG.out, ⟨by omega, by omega⟩⟩).mono ?_
    rintro e w1 ⟨rfl, rfl⟩
    rw [HC.out]
    go_wp2_with fail
    refine (Floor_good (-t) g _ ⟨HG.out, ⟨by omega, by omega⟩⟩).mono ?_
    rintro e w1 ⟨rfl, rfl⟩
    rw [← HD.out]
    go_wp2_with fail

    refine (cut_good a a g _ HG.out ⟨by omega, by omega⟩ ⟨by omega, by omega⟩).mono ?_
    rintro e w2 ⟨k, hk, v, rfl, hown, hnil, hB⟩
    obtain rfl := ends_one hk HE.out
    obtain ⟨A, c, rfl, _, _⟩ := own_row2 hown hnil
    have HB := Lib.hid hB
    clear hk hown hnil hB
    go_wp2_with fail
    refine (alive_any _).mono ?_
    rintro e w3 ⟨rfl, hB3⟩
    have HB3 := Lib.hid (bthen HB.out hB3)
    clear hB3 HB
    go_wp2
    go_ret
    exact ⟨by simp, HB3.out⟩

  · obtain ⟨K, rfl⟩ : ∃ K, q = K + 500 := ⟨q - 500, by omega⟩
    have hK : K ≤ 523 := by omega
    have hqe' : bits .and .i64 m 1023 = (K : Int) + 500 := by rw [hqe]; omega
    have n1 : 0 ≤ (K : Int) * g := Int.mul_nonneg (by omega) (by omega)
    have n2 : (K : Int) * g ≤ 548405248 := by
      have := Int.mul_le_mul (show (K : Int) ≤ 523 by omega) g2 (by omega) (by omega)
      omega
    have n3 : 0 ≤ g * (K : Int) := Int.mul_nonneg (by omega) (by omega)
    have n4 : g * (K : Int) ≤ 548405248 := by rw [Int.mul_comm]; exact n2
    have HFA := Lib.hid (show flr (t + (K : Int) * g) g = a + (K : Int) * g by rw [flr_add, HA.out])
    have HE := Lib.hid (show EndsAt g (a + g * (K : Int)) a K by rw [HAM.out]; exact ends_mul g1 (by omega))
    clear hqe hq hq5
    go_enter Try.func7, Try.ntmps7
    go_wp2_with fail
    refine (right_yes _ _ HG.out).mono ?_
    rintro e w1 ⟨rfl, rfl⟩
    go_wp2_with fail
    refine (Floor_good t g _ ⟨HG.out, ⟨by omega, by omega⟩⟩).mono ?_
    rintro e w1 ⟨rfl, rfl⟩
    rw [← HA.out]
    go_wp2_with fail
    refine (Floor_good (t + (K : Int) * g) g _ ⟨HG.out, ⟨by omega, by omega⟩⟩).mono ?_
    rintro e w1 ⟨rfl, rfl⟩
    rw [HFA.out]
    go_wp2_with fail
    refine (Ceil_good t g _ ⟨HG.out, ⟨by omega, by omega⟩⟩).mono ?_
    rintro e w1 ⟨rfl, rfl⟩
    rw [HC.out]
    go_wp2_with fail
    refine (Floor_good (-t) g _ ⟨HG.out, ⟨by omega, by omega⟩⟩).mono ?_
    rintro e w1 ⟨rfl, rfl⟩
    rw [← HD.out]
    go_wp2_with fail

    refine (cut_good a (a + g * (K : Int)) g _ HG.out ⟨by omega, by omega⟩ ⟨by omega, by omega⟩).mono ?_
    rintro e w2 ⟨k, hk, v, rfl, hown, hnil, hB⟩
    obtain rfl := ends_one hk HE.out
    obtain ⟨A, c, rfl, _, _⟩ := own_row2 hown hnil
    have HB := Lib.hid hB
    clear hk hown hnil hB
    go_wp2_with fail
    refine (alive_any _).mono ?_
    rintro e w3 ⟨rfl, hB3⟩
    have HB3 := Lib.hid (bthen HB.out hB3)
    clear hB3 HB
    go_wp2
    go_ret
    exact ⟨by simp, HB3.out⟩

set_option maxRecDepth 100000 in
set_option maxHeartbeats 2000000 in
theorem shift_any (t g m : Int) (w : World) : Calls Try.prog 7 #[.int .i64 t, .int .i64 g, .int .i64 m] w fun e w' => e = .returned (.bool true) ∧ Below w.heap.size w w' := by
  by_cases hg : okGran g
  · by_cases h1 : t < -1073741824
    · have HG := Lib.hid hg
      clear hg
      go_enter Try.func7, Try.ntmps7
      go_wp2_with fail
      refine (right_yes _ _ HG.out).mono ?_
      rintro e w1 ⟨rfl, rfl⟩
      go_wp2_with fail
      refine (alive_any _).mono ?_
      rintro e w2 ⟨rfl, hB⟩
      have HB2 := Lib.hid hB
      clear hB
      go_wp2
      go_ret
      exact ⟨by simp, HB2.out⟩
    · by_cases h2 : 1073741824 < t
      · have HG := Lib.hid hg
        clear hg h1
        go_enter Try.func7, Try.ntmps7
        go_wp2_with fail
        refine (right_yes _ _ HG.out).mono ?_
        rintro e w1 ⟨rfl, rfl⟩
        go_wp2_with fail
        refine (alive_any _).mono ?_
        rintro e w2 ⟨rfl, hB⟩
        have HB2 := Lib.hid hB
        clear hB
        go_wp2
        go_ret
        exact ⟨by simp, HB2.out⟩
      · exact shift_main t g m w hg (by omega) (by omega)
  · have HG := Lib.hid hg
    clear hg
    go_enter Try.func7, Try.ntmps7
    go_wp2_with fail
    refine (right_no _ _ HG.out).mono ?_
    rintro e w1 ⟨rfl, rfl⟩
    go_wp2_with fail
    refine (alive_any _).mono ?_
    rintro e w2 ⟨rfl, hB⟩
    have HB2 := Lib.hid hB
    clear hB
    go_wp2
    go_ret
    exact ⟨by simp, HB2.out⟩
end Go.Proofs.Ytmjjlolbdjjepaa
