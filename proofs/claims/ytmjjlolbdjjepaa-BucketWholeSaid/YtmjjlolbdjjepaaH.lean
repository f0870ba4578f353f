/- The law BucketWithin: its walk. -/
import Derived.Test.YtmjjlolbdjjepaaG
namespace Go.Proofs.Ytmjjlolbdjjepaa
open Go.RowKit
set_option linter.unusedSimpArgs false
set_option linter.unusedVariables false
theorem flr_mul (t g : Int) : flr t g = g * (t / g) := by
  have := Int.emod_add_mul_ediv t g
  unfold flr; omega
theorem al_mul {g m : Int} (hg : okGran g) : alB (g * m) g = true := by
  unfold alB
  rw [decide_eq_true hg, Int.mul_tmod_right]; rfl
theorem al_flr' {t g : Int} (hg : okGran g) : alB (flr t g) g = true := by rw [flr_mul]; exact al_mul hg
theorem al_clg' {t g : Int} (hg : okGran g) : alB (clg t g) g = true := by unfold clg; exact al_flr' hg
theorem clg_bd {t g : Int} (hg : 1 ≤ g) : t ≤ clg t g ∧ clg t g < t + g := by
  have h := clg_eq (t := t) hg
  have h2 := flr_bd (t := t) hg
  split at h <;> omega
theorem flr_in {a g m q : Int} (hg : 1 ≤ g) (ha : a = g * m) (hq : 0 ≤ q) : flr a (g * (1 + q)) = flr (a + g - 1) (g * (1 + q)) := by
  obtain ⟨H, hH⟩ : ∃ H, H = g * (1 + q) := ⟨_, rfl⟩
  have hH1 : 1 ≤ H := by
    have := Int.mul_le_mul hg (show (1 : Int) ≤ 1 + q by omega) (by omega) (by omega)
    omega
  rw [← hH]
  have e := Int.emod_add_mul_ediv a H
  have r0 := Int.emod_nonneg a (show H ≠ 0 by omega)
  have r1 := Int.emod_lt_of_pos a (show 0 < H by omega)
  obtain ⟨r, hr⟩ : ∃ r, r = a % H := ⟨_, rfl⟩
  obtain ⟨d, hd⟩ : ∃ d, d = a / H := ⟨_, rfl⟩
  rw [← hr, ← hd] at e
  rw [← hr] at r0 r1
  obtain ⟨s, hs⟩ : ∃ s, s = m - (1 + q) * d := ⟨_, rfl⟩
  have hrs : r = g * s := by
    rw [hs, Int.mul_sub, ← Int.mul_assoc, ← hH, ← ha]; omega
  have hsq : s < 1 + q := by
    rcases (show s < 1 + q ∨ 1 + q ≤ s by omega) with h | h
    · exact h
    · have := Int.mul_le_mul_of_nonneg_left h (show 0 ≤ g by omega)
      omega
  have hle : g * s + g ≤ H := by
    have := Int.mul_le_mul_of_nonneg_left (show s + 1 ≤ 1 + q by omega) (show 0 ≤ g by omega)
    rw [Int.mul_add, Int.mul_one] at this
    omega
  have e2 : (a + g - 1) % H = r + g - 1 := by
    rw [show a + g - 1 = (r + g - 1) + H * d by omega, Int.add_mul_emod_self_left, Int.emod_eq_of_lt (by omega) (by omega)]
  unfold flr
  rw [e2, ← hr]; omega
theorem co_mul {g q : Int} (hg : okGran g) (hH : okGran (g * (1 + q))) : coB (g * (1 + q)) g = true := by
  unfold coB
  rw [decide_eq_true hg, decide_eq_true hH, Int.mul_emod_right]; rfl
theorem and15 (m : Int) : ∃ q : Nat, q ≤ 15 ∧ bits .and .i64 m 15 = (q : Int) := by
  refine ⟨(BitVec.ofInt 64 m &&& BitVec.ofInt 64 15).toNat, ?_, ?_⟩
  · rw [BitVec.toNat_and]; exact Nat.and_le_right
  · have h : (BitVec.ofInt 64 m &&& BitVec.ofInt 64 15).toNat ≤ 15 := by rw [BitVec.toNat_and]; exact Nat.and_le_right
    show IntKind.i64.wrap ((BitVec.ofInt 64 m &&& BitVec.ofInt 64 15).toNat : Int) = _
    rw [IntKind.wrap_i64]; omega
set_option maxRecDepth 100000 in
set_option maxHeartbeats 4000000 in
theorem within_any (t g m : Int) (w : World) : Calls Try.prog 5 #[.int .i64 t, .int .i64 g, .int .i64 m] w fun e w' => e = .returned (.bool true) ∧ Below w.heap.size w w' := by
  by_cases hok : okGran g ∧ okTime t
  · have HOK := Lib.hid hok
    obtain ⟨⟨g1, g2⟩, ⟨t1, t2⟩⟩ := hok
    obtain ⟨q, hq, hqe⟩ := and15 m
    have hfb := flr_bd (t := t) g1
    have hcb := clg_bd (t := t) g1
    obtain ⟨a, ha⟩ : ∃ a, a = flr t g := ⟨_, rfl⟩
    obtain ⟨b, hb⟩ : ∃ b, b = clg t g := ⟨_, rfl⟩
    rw [← ha] at hfb
    rw [← hb] at hcb
    obtain ⟨a1, a2⟩ := hfb
    obtain ⟨b1, b2⟩ := hcb
    have ha3 : t - a < g := by omega
    have hb3 : b - t < g := by omega
    have HA := Lib.hid ha
    have HB := Lib.hid hb
    have HAA := Lib.hid (show alB a g = true by rw [ha]; exact al_flr' ⟨g1, g2⟩)
    have HAB := Lib.hid (show alB b g = true by rw [hb]; exact al_clg' ⟨g1, g2⟩)
    have hm1 : 1 ≤ g * (1 + (q : Int)) := by
      have := Int.mul_le_mul g1 (show (1 : Int) ≤ 1 + q by omega) (by omega) (by omega)
      omega
    have hm2 : g * (1 + (q : Int)) ≤ 16777216 := by
      have := Int.mul_le_mul g2 (show (1 : Int) + q ≤ 16 by omega) (by omega) (by omega)
      omega
    have HFI := Lib.hid (flr_in (a := a) (q := (q : Int)) g1 (by rw [ha]; exact flr_mul t g) (by omega))
    clear ha hb
    by_cases hH : okGran (g * (1 + (q : Int)))
    · have HH := Lib.hid hH
      have HCO := Lib.hid (co_mul ⟨g1, g2⟩ hH)
      clear hH
      by_cases ha4 : a < -1099511627776
      · skip
        go_enter Try.func5, Try.ntmps5
        go_wp2_with fail
        refine (Floor_good t g _ HOK.out).mono ?_
        rintro e w1 ⟨rfl, rfl⟩
        rw [← HA.out]
        go_wp2_with fail
        refine (Ceil_good t g _ HOK.out).mono ?_
        rintro e w1 ⟨rfl, rfl⟩
        rw [← HB.out]
        go_wp2_with fail
        refine (al_any a g _).mono ?_
        rintro e w1 ⟨rfl, rfl⟩
        rw [HAA.out]
        go_wp2_with fail
        refine (al_any b g _).mono ?_
        rintro e w1 ⟨rfl, rfl⟩
        rw [HAB.out]
        go_wp2_with fail
        refine (right_yes _ _ HH.out).mono ?_
        rintro e w1 ⟨rfl, rfl⟩
        go_wp2_with fail
        refine (alive_any _).mono ?_
        rintro e w2 ⟨rfl, hB⟩
        have HB2 := Lib.hid hB
        clear hB
        go_wp2
        go_ret
        exact ⟨by simp, HB2.out⟩

      · have ha5 : -1099511627776 ≤ a := by omega
        clear ha4
        by_cases ha6 : 1099511627776 < a + g - 1
        · skip
          go_enter Try.func5, Try.ntmps5
          go_wp2_with fail
          refine (Floor_good t g _ HOK.out).mono ?_
          rintro e w1 ⟨rfl, rfl⟩
          rw [← HA.out]
          go_wp2_with fail
          refine (Ceil_good t g _ HOK.out).mono ?_
          rintro e w1 ⟨rfl, rfl⟩
          rw [← HB.out]
          go_wp2_with fail
          refine (al_any a g _).mono ?_
          rintro e w1 ⟨rfl, rfl⟩
          rw [HAA.out]
          go_wp2_with fail
          refine (al_any b g _).mono ?_
          rintro e w1 ⟨rfl, rfl⟩
          rw [HAB.out]
          go_wp2_with fail
          refine (right_yes _ _ HH.out).mono ?_
          rintro e w1 ⟨rfl, rfl⟩
          go_wp2_with fail
          refine (alive_any _).mono ?_
          rintro e w2 ⟨rfl, hB⟩
          have HB2 := Lib.hid hB
          clear hB
          go_wp2
          go_ret
          exact ⟨by simp, HB2.out⟩

        · have ha7 : a + g - 1 ≤ 1099511627776 := by omega
          have HTA := Lib.hid (show okTime a ∧ okTime (a + g - 1) from ⟨⟨ha5, by omega⟩, ⟨by omega, ha7⟩⟩)
          clear ha6
          go_enter Try.func5, Try.ntmps5
          go_wp2_with fail
          refine (Floor_good t g _ HOK.out).mono ?_
          rintro e w1 ⟨rfl, rfl⟩
          rw [← HA.out]
          go_wp2_with fail
          refine (Ceil_good t g _ HOK.out).mono ?_
          rintro e w1 ⟨rfl, rfl⟩
          rw [← HB.out]
          go_wp2_with fail
          refine (al_any a g _).mono ?_
          rintro e w1 ⟨rfl, rfl⟩
          rw [HAA.out]
          go_wp2_with fail
          refine (al_any b g _).mono ?_
          rintro e w1 ⟨rfl, rfl⟩
          rw [HAB.out]
          go_wp2_with fail
          refine (right_yes _ _ HH.out).mono ?_
          rintro e w1 ⟨rfl, rfl⟩
          go_wp2_with fail
          refine (Floor_good a _ _ ⟨HH.out, by have := HTA.out; exact this.1⟩).mono ?_
          rintro e w1 ⟨rfl, rfl⟩
          go_wp2_with fail
          refine (Floor_good (a + g - 1) _ _ ⟨HH.out, by have := HTA.out; exact this.2⟩).mono ?_
          rintro e w1 ⟨rfl, rfl⟩
          rw [← HFI.out]
          obtain ⟨C, hC⟩ : ∃ C, C = flr a (g * (1 + (q : Int))) := ⟨_, rfl⟩
          rw [← hC]
          clear hC
          go_wp2_with fail
          refine (alive_any _).mono ?_
          rintro e w2 ⟨rfl, hB⟩
          have HB2 := Lib.hid hB
          clear hB
          go_wp2_with fail
          refine (co_any _ g _).mono ?_
          rintro e w3 ⟨rfl, rfl⟩
          rw [HCO.out]
          go_wp2
          go_ret
          exact ⟨by simp, HB2.out⟩

    · have HH := Lib.hid hH
      clear hH
      go_enter Try.func5, Try.ntmps5
      go_wp2_with fail
      refine (Floor_good t g _ HOK.out).mono ?_
      rintro e w1 ⟨rfl, rfl⟩
      rw [← HA.out]
      go_wp2_with fail
      refine (Ceil_good t g _ HOK.out).mono ?_
      rintro e w1 ⟨rfl, rfl⟩
      rw [← HB.out]
      go_wp2_with fail
      refine (al_any a g _).mono ?_
      rintro e w1 ⟨rfl, rfl⟩
      rw [HAA.out]
      go_wp2_with fail
      refine (al_any b g _).mono ?_
      rintro e w1 ⟨rfl, rfl⟩
      rw [HAB.out]
      go_wp2_with fail
      refine (right_no _ _ HH.out).mono ?_
      rintro e w1 ⟨rfl, rfl⟩
      go_wp2_with fail
      refine (alive_any _).mono ?_
      rintro e w2 ⟨rfl, hB⟩
      have HB2 := Lib.hid hB
      clear hB
      go_wp2
      go_ret
      exact ⟨by simp, HB2.out⟩

  · have HOK := Lib.hid hok
    have bad : ∀ w, Calls Try.prog 5 #[.int .i64 t, .int .i64 g, .int .i64 m] w fun e w' => e = .returned (.bool true) ∧ Below w.heap.size w w' := by
      intro w
      by_cases hg : okGran g
      · have HG := Lib.hid hg
        have ht : ¬ okTime t := fun h => hok ⟨hg, h⟩
        unfold okTime at ht
        clear hg hok
        by_cases h1 : t < -1099511627776
        · clear ht
          go_enter Try.func5, Try.ntmps5
          go_wp2_with fail
          refine (Floor_bad t g _ HOK.out).mono ?_
          rintro e w1 ⟨rfl, rfl⟩
          go_wp2_with fail
          refine (Ceil_bad t g _ HOK.out).mono ?_
          rintro e w1 ⟨rfl, rfl⟩
          go_wp2_with fail
          refine (alive_any _).mono ?_
          rintro e w2 ⟨rfl, hB⟩
          have HB2 := Lib.hid hB
          clear hB
          go_wp2_with fail
          refine (right_yes _ _ HG.out).mono ?_
          rintro e w1 ⟨rfl, rfl⟩
          go_wp2
          go_ret
          exact ⟨by simp, HB2.out⟩
        · have h2 : 1099511627776 < t := by omega
          clear ht
          go_enter Try.func5, Try.ntmps5
          go_wp2_with fail
          refine (Floor_bad t g _ HOK.out).mono ?_
          rintro e w1 ⟨rfl, rfl⟩
          go_wp2_with fail
          refine (Ceil_bad t g _ HOK.out).mono ?_
          rintro e w1 ⟨rfl, rfl⟩
          go_wp2_with fail
          refine (alive_any _).mono ?_
          rintro e w2 ⟨rfl, hB⟩
          have HB2 := Lib.hid hB
          clear hB
          go_wp2_with fail
          refine (right_yes _ _ HG.out).mono ?_
          rintro e w1 ⟨rfl, rfl⟩
          go_wp2
          go_ret
          exact ⟨by simp, HB2.out⟩
      · have HG := Lib.hid hg
        clear hg hok
        go_enter Try.func5, Try.ntmps5
        go_wp2_with fail
        refine (Floor_bad t g _ HOK.out).mono ?_
        rintro e w1 ⟨rfl, rfl⟩
        go_wp2_with fail
        refine (Ceil_bad t g _ HOK.out).mono ?_
        rintro e w1 ⟨rfl, rfl⟩
        go_wp2_with fail
        refine (alive_any _).mono ?_
        rintro e w2 ⟨rfl, hB⟩
        have HB2 := Lib.hid hB
        clear hB
        go_wp2_with fail
        refine (right_no _ _ HG.out).mono ?_
        rintro e w1 ⟨rfl, rfl⟩
        go_wp2
        go_ret
        exact ⟨by simp, HB2.out⟩
    exact bad w
end Go.Proofs.Ytmjjlolbdjjepaa
