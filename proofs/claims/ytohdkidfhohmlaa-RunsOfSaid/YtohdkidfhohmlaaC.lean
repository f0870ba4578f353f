/- The document's Right; how many lie below a number; has; the k-th. -/
import Derived.Test.YtohdkidfhohmlaaB
import Derived.Deep.QuietTactic
import Derived.BigQuiet
namespace Go.Proofs.Ytohdkidfhohmlaa
open Go.RowKit
set_option linter.unusedSimpArgs false
set_option linter.unusedVariables false
set_option maxRecDepth 100000 in
set_option maxHeartbeats 1000000 in
theorem rright_any (A : Option Addr) (n c : Nat) (L : List (Int × Int)) (w : World) (hA : Row w A (cellsP L)) (hz : n = L.length) (hn : n ≤ 9223372036854775807) :
    Calls Try.prog 18 #[.slice A n c] w fun e w' => e = .returned (.bool (rightB (-1) L)) ∧ Below w.heap.size w w' := by
  have HZ := Lib.hid hz
  obtain ⟨R, hR⟩ : ∃ R, R = rightB (-1) L := ⟨_, rfl⟩
  rw [← hR]
  have HR := Lib.hid hR
  clear hz hR
  go_enter Try.func18, Try.ntmps18
  go_wp2_with fail
  go_loopw [3] (fun i wr => ∃ (k : Nat) (z : Int), k ≤ n ∧ i = .int .i64 k ∧ (k = 0 → z = -1) ∧ (∀ h : k - 1 < L.length, 0 < k → z = L[k - 1].2 ∧ 0 < z) ∧ Hid (R = rightB z (L.drop k)) ∧ Hid (Below w.heap.size w wr)) (fun i _ => n - (intOf i).toNat)
  case atStart => exact ⟨0, -1, by omega, rfl, fun _ => rfl, fun _ h => absurd h (by omega), HR, Lib.hid (Below.refl _ _)⟩
  case round =>
    clear HR
    obtain ⟨k, z, hk, rfl, hz0, hzp, HR, HB⟩ := hrel
    have HZ0 := Lib.hid hz0
    have HZP := Lib.hid hzp
    clear hz0 hzp
    by_cases hlt : k < n
    · have hkz : k < L.length := by have := HZ.out; omega
      have HA2 := Lib.hid (hA.keep (Nat.le_refl _) HB.out)
      obtain ⟨b, off, hA', c0, c1⟩ := HA2.out.at2 hkz
      obtain ⟨x, hx⟩ : ∃ x, x = L[k].1 := ⟨_, rfl⟩
      obtain ⟨y, hy⟩ : ∃ y, y = L[k].2 := ⟨_, rfl⟩
      have hd : L.drop k = (x, y) :: L.drop (k + 1) := by rw [hx, hy]; exact List.drop_eq_getElem_cons hkz
      rw [← hx] at c0
      rw [← hy] at c1
      have HY := Lib.hid hy
      have HR2 := HR.out
      rw [hd] at HR2
      have hk1 : (k : Int) < (n : Int) := by omega
      have hk0 : (0 : Int) ≤ (k : Int) := by omega
      have hnx : ∀ h : k + 1 - 1 < L.length, 0 < k + 1 → y = L[k + 1 - 1].2 := fun _ _ => hy
      have HNX := Lib.hid hnx
      clear hd hx hy HR hA hnx
      by_cases hbad : x ≤ z ∨ y ≤ x ∨ 65536 < y
      · rw [right_bad hbad] at HR2
        have HF := Lib.hid HR2
        clear HR2
        have HBAD := Lib.hid hbad
        clear hbad
        by_cases h1 : x < 0
        · subst hA'
          go_wp2_with fail
          go_quiet (fail)
          go_wp2_with fail
          go_ret
          exact ⟨by rw [HF.out]; rfl, below_drewN HB.out _⟩
        · by_cases h2 : y ≤ x
          · subst hA'
            have hd1 : decide (x < 0) = false := by simp; omega
            have hd2 : decide (y ≤ x) = true := by simp; omega
            clear h1 hk
            generalize hP : off + k * 2 = P at c0 c1
            go_wp2_with fail
            go_quiet (fail)
            go_wp2_with fail
            go_ret
            exact ⟨by rw [HF.out]; rfl, below_drewN HB.out _⟩
          · by_cases h3 : 65536 < y
            · subst hA'
              have hd1 : decide (x < 0) = false := by simp; omega
              have hd2 : decide (y ≤ x) = false := by simp; omega
              have hd3 : decide (65536 < y) = true := by simp; omega
              clear h1 h2 hk
              generalize hP : off + k * 2 = P at c0 c1
              go_wp2_with fail
              go_quiet (fail)
              go_wp2_with fail
              go_ret
              exact ⟨by rw [HF.out]; rfl, below_drewN HB.out _⟩
            · have hxz : x ≤ z := by have := HBAD.out; omega
              have hkp : 0 < k := by
                rcases Nat.eq_zero_or_pos k with h | h
                · have := HZ0.out h; omega
                · exact h
              obtain ⟨j, hkj⟩ : ∃ j, k = j + 1 := ⟨k - 1, by omega⟩
              have hjl : j < L.length := by omega
              obtain ⟨b', off', hA'', _, c3⟩ := HA2.out.at2 hjl
              have hzj := HZP.out (by omega) hkp
              have hzj2 : z = L[j].2 := by have := hzj.1; simpa [hkj] using this
              rw [← hzj2] at c3
              subst hA'
              cases hA''
              have hs1 : IntKind.i64.wrap ((k : Int) - 1) = (j : Int) := by rw [IntWalk.i64_in _ (by omega)]; omega
              have hs2 : (k : Int) - 1 = (j : Int) := by omega
              have hd6 : decide ((0 : Int) < (k : Int)) = true := by simp; omega
              have hj1 : (j : Int) < (n : Int) := by omega
              have hd1 : decide (x < 0) = false := by simp; omega
              have hd2 : decide (y ≤ x) = false := by simp; omega
              have hd3 : decide (65536 < y) = false := by simp; omega
              have hd4 : decide (x ≤ z) = true := by simp; omega
              have hd5 : decide (0 < k) = true := by simp; omega
              clear hzj hzj2 HY h1 h2 h3 hxz hk hlt hkj
              go_wp2_with fail
              go_quiet (fail)
              go_wp2_with fail
              go_ret
              exact ⟨by rw [HF.out]; rfl, below_drewN HB.out _⟩
      · rw [right_ok hbad] at HR2
        have HF := Lib.hid HR2
        clear HR2
        have h1 : ¬ x < 0 := by
          rcases Nat.eq_zero_or_pos k with h | h
          · have := HZ0.out h; omega
          · have := HZP.out (by omega) h; omega
        have h2 : ¬ y ≤ x := by omega
        have h3 : ¬ 65536 < y := by omega
        have hy0 : 0 < y := by omega
        rcases Nat.eq_zero_or_pos k with hk00 | hkp
        · subst hk00 hA'
          rw [Nat.zero_mul, Nat.add_zero] at c0 c1
          clear hbad
          have hd1 : decide (x < 0) = false := by simp; omega
          have hd2 : decide (y ≤ x) = false := by simp; omega
          have hd3 : decide (65536 < y) = false := by simp; omega
          clear h1 h2 h3
          go_wp2_with fail
          go_quiet (fail)
          go_wp2_with fail
          go_roundw
          case rel => exact ⟨0 + 1, y, by omega, by go_num, fun h => by omega, fun h h' => ⟨HNX.out h h', hy0⟩, HF, Lib.hid (below_drewN HB.out _)⟩
          case measure => simp [intOf]; omega
        · obtain ⟨j, hkj⟩ : ∃ j, k = j + 1 := ⟨k - 1, by omega⟩
          have hjl : j < L.length := by omega
          obtain ⟨b', off', hA'', _, c3⟩ := HA2.out.at2 hjl
          have hzj := HZP.out (by omega) hkp
          have hzj2 : z = L[j].2 := by have := hzj.1; simpa [hkj] using this
          rw [← hzj2] at c3
          have h4 : ¬ x ≤ z := by omega
          subst hA'
          cases hA''
          have hs1 : IntKind.i64.wrap ((k : Int) - 1) = (j : Int) := by rw [IntWalk.i64_in _ (by omega)]; omega
          have hs2 : (k : Int) - 1 = (j : Int) := by omega
          have hj1 : (j : Int) < (n : Int) := by omega
          have hd1 : decide (x < 0) = false := by simp; omega
          have hd2 : decide (y ≤ x) = false := by simp; omega
          have hd3 : decide (65536 < y) = false := by simp; omega
          have hd4 : decide (x ≤ z) = false := by simp; omega
          have hd5 : decide (0 < k) = true := by simp; omega
          have hd6 : decide ((0 : Int) < (k : Int)) = true := by simp; omega
          have HKJ := Lib.hid hkj
          clear hzj hzj2 hbad h1 h2 h3 h4 hkj
          go_wp2_with fail
          go_quiet (fail)
          go_wp2_with fail
          go_roundw
          case rel => exact ⟨k + 1, y, by omega, by go_num, fun h => by omega, fun h h' => ⟨HNX.out h h', hy0⟩, HF, Lib.hid (below_drewN HB.out _)⟩
          case measure => simp [intOf]; omega
    · have HF := Lib.hid (show R = true by rw [HR.out, List.drop_of_length_le (by have := HZ.out; omega)]; rfl)
      clear HR
      have hk1 : ¬ (k : Int) < (n : Int) := by omega
      go_wp2_with fail
      go_ret
      exact ⟨by rw [HF.out]; rfl, HB.out⟩
end Go.Proofs.Ytohdkidfhohmlaa
