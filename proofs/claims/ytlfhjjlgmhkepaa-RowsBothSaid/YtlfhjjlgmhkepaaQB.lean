import Derived.Test.YtlfhjjlgmhkepaaQA
namespace Go.Proofs.Ytlfhjjlgmhkepaa
open Go.RowKit
set_option maxHeartbeats 400000 in
theorem afits_any (A : Option Addr) (n c : Nat) (zs : List Int) (w : World) (hA : Row w A (zs.map (Value.int .i64))) (hn : n ≤ 9223372036854775807) (hz : n = zs.length) :
    Calls Try.prog 62 #[.slice A n c] w fun e w' => e = .returned (.bool (zs.all fit1)) ∧ w = w' := by
  have HZ := Lib.hid hz
  clear hz
  go_enter Try.func62, Try.ntmps62
  go_wp2
  go_loop [4, 7] (fun _ i => ∃ k : Nat, k ≤ n ∧ i = .int .i64 k ∧ ∀ j (hj : j < zs.length), j < k → fit1 zs[j] = true) (fun _ i => n - (intOf i).toNat)
  case atStart => exact ⟨0, Nat.zero_le _, rfl, fun j _ h => absurd h (by omega)⟩
  case round =>
    obtain ⟨k, hk, rfl, hall⟩ := hrel
    have Hall := Lib.hid hall
    clear hall
    by_cases hlt : k < n
    · have hkz : k < zs.length := by have := HZ.out; omega
      rcases hA with hA | ⟨b, off, rfl, hc⟩
      · simp at hA; subst hA; simp at hkz
      have hc2 := hc k (.int .i64 zs[k]) (by simp [hkz])
      clear hc
      obtain ⟨z, hz⟩ : ∃ z, z = zs[k] := ⟨_, rfl⟩
      rw [← hz] at hc2
      have Hz := Lib.hid hz
      clear hz
      by_cases h1 : z < -4611686018427387904
      · go_wp2
        go_ret
        exact ⟨ret_bool (fits_no zs k hkz (by rw [← Hz.out]; exact fit1_lo h1)).symm, rfl⟩
      · by_cases h2 : 4611686018427387904 < z
        · go_wp2
          go_ret
          exact ⟨ret_bool (fits_no zs k hkz (by rw [← Hz.out]; exact fit1_hi h2)).symm, rfl⟩
        · go_wp2
          go_round
          case rel =>
            refine ⟨k + 1, by omega, by go_num, fun j hj hjk => ?_⟩
            by_cases e : j = k
            · subst e; rw [← Hz.out]; exact fit1_in (by omega) (by omega)
            · exact Hall.out j hj (by omega)
          case measure => simp [intOf]; omega
    · go_wp2
      go_ret
      exact ⟨ret_bool (fits_yes zs (fun j hj => Hall.out j hj (by have := HZ.out; omega))).symm, rfl⟩
end Go.Proofs.Ytlfhjjlgmhkepaa
