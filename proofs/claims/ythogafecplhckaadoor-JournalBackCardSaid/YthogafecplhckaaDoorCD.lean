/- The document's sum. -/
import Derived.Test.YthogafecplhckaaDoorCZ
import Derived.Test.YthogafecplhckaaDoorCA
namespace Go.Proofs.YthogafecplhckaaDoor
open Go.RowKit
set_option linter.unusedSimpArgs false
set_option linter.unusedVariables false
set_option maxRecDepth 100000 in
set_option maxHeartbeats 4000000 in
theorem rsum_any (A : Option Addr) (n c : Nat) (bs : List Int) (w : World) (hA : Row w A (bs.map (Value.int .u8))) (hz : n = bs.length) (hn : n ≤ 100000000) (hb : bytes bs) :
    Calls Tryd.prog 64 #[.slice A n c] w fun e w' => e = .returned (.int .u32 (sumI bs)) ∧ w = w' := by
  have HZ := Lib.hid hz
  have HA := Lib.hid hA
  have HBY := Lib.hid hb
  clear hz hA hb
  go_enter Tryd.func64, Tryd.ntmps64
  go_wp2_with fail
  go_loop [3, 4] (fun a i => ∃ (q s : Nat), q ≤ n ∧ s < 4294967296 ∧ i = .int .i64 (q : Int) ∧ a = .int .u32 (s : Int) ∧ Hid (s = crcN 4294967295 (bs.take q))) (fun _ i => n - (intOf i).toNat)
  case atStart => exact ⟨0, 4294967295, by omega, by omega, rfl, rfl, Lib.hid rfl⟩
  case round =>
    obtain ⟨q, s, hq, hs, rfl, rfl, HE⟩ := hrel
    by_cases hlt : q < n
    · have hqz : q < bs.length := by have := HZ.out; omega
      obtain ⟨b, off, hA', c0⟩ := HA.out.cell hqz
      obtain ⟨x, hx⟩ : ∃ x : Nat, x = bs[q].toNat := ⟨_, rfl⟩
      have hxb := HBY.out bs[q] (List.getElem_mem hqz)
      have hx2 : bs[q] = (x : Int) := by rw [hx]; omega
      rw [hx2] at c0
      have hx9 : x < 256 := by omega
      have HX := Lib.hid hx
      subst hA'
      clear hx hx2 hxb
      have hqn : (q : Int) < (n : Int) := by omega
      go_wp2_with fail
      go_loop [3, 5] (fun a i => ∃ (k r : Nat), k ≤ 8 ∧ r < 4294967296 ∧ i = .int .i64 (k : Int) ∧ a = .int .u32 (r : Int) ∧ Hid (r = zp k (s ^^^ x % 2 ^ k))) (fun _ i => 8 - (intOf i).toNat)
      case atStart => exact ⟨0, s, by omega, hs, rfl, rfl, Lib.hid (by simp [zp, Nat.mod_one])⟩
      case round =>
        obtain ⟨k, r, hk, hr, rfl, rfl, HR⟩ := hrel
        by_cases hk8 : k < 8
        · have hk1 : (k : Int) < 8 := by omega
          have hk0 : (0 : Int) ≤ (k : Int) := by omega
          obtain ⟨y, hy⟩ : ∃ y, y = x / 2 ^ k := ⟨_, rfl⟩
          obtain ⟨d, hd⟩ : ∃ d, d = y % 2 := ⟨_, rfl⟩
          have hy9 : y < 256 := by rw [hy]; exact Nat.lt_of_le_of_lt (Nat.div_le_self _ _) hx9
          have e9 : (x : Int) / 2 ^ k = (y : Int) := by rw [hy]; simp
          have e8 : (y : Int) % 2 = (d : Int) := by omega
          have hd1 : d ≤ 1 := by omega
          obtain ⟨l, hl⟩ : ∃ l, l = r % 2 := ⟨_, rfl⟩
          obtain ⟨r2, hr2⟩ : ∃ r2, r2 = r / 2 := ⟨_, rfl⟩
          have e7 : (r : Int) % 2 = (l : Int) := by omega
          have e6 : (r : Int) / 2 = (r2 : Int) := by omega
          have hr29 : r2 < 4294967296 := by omega
          have e5 : bits .xor .u32 (r2 : Int) 2197175160 = ((r2 ^^^ 2197175160 : Nat) : Int) := u32_xor_nat r2 2197175160 (by omega) (by omega)
          obtain ⟨r3, hr3⟩ : ∃ r3, r3 = r2 ^^^ 2197175160 := ⟨_, rfl⟩
          have hr39 : r3 < 4294967296 := by rw [hr3]; exact Nat.xor_lt_two_pow (n := 32) (by omega) (by omega)
          rw [← hr3] at e5
          have hnew : zp (k + 1) (s ^^^ x % 2 ^ (k + 1)) = if d = l then r2 else r3 := by
            rw [bits_snoc, ← HR.out, ← hy, ← hd, ← bit_zp r d hd1, ← hl, ← hr2, ← hr3]
          by_cases hdl : d = l
          · rw [if_pos hdl] at hnew
            have HN := Lib.hid hnew
            have ht : ((d : Int) == (l : Int)) = true := by simp; omega
            have ht2 : ((d : Int) != (l : Int)) = false := by simp; omega
            clear hnew hy hd hl hr2 hr3 hdl e5
            go_wp2_with fail
            go_round
            case rel => exact ⟨k + 1, r2, by omega, hr29, by go_num, rfl, Lib.hid HN.out.symm⟩
            case measure => simp [intOf]; omega
          · rw [if_neg hdl] at hnew
            have HN := Lib.hid hnew
            have ht : ((d : Int) == (l : Int)) = false := by simp; omega
            have ht2 : ((d : Int) != (l : Int)) = true := by simp; omega
            clear hnew hy hd hl hr2 hr3 hdl
            go_wp2_with fail
            go_round
            case rel => exact ⟨k + 1, r3, by omega, hr39, by go_num, rfl, Lib.hid HN.out.symm⟩
            case measure => simp [intOf]; omega
        · have hk1 : ¬ (k : Int) < 8 := by omega
          obtain rfl : k = 8 := by omega
          have HN := Lib.hid (show r = crcN 4294967295 (bs.take (q + 1)) by
            rw [HR.out, take_snoc bs q hqz, crc_snoc, byte_zp _ _ (by rw [← HX.out]; exact hx9), ← HE.out, ← HX.out, show x % 2 ^ 8 = x by omega])
          clear HR
          go_wp2_with fail
          go_round
          case rel => exact ⟨q + 1, r, by omega, hr, by go_num, rfl, HN⟩
          case measure => simp [intOf]; omega
    · have hqn : ¬ (q : Int) < (n : Int) := by omega
      have HN := Lib.hid (show s = crcN 4294967295 bs by rw [HE.out, List.take_of_length_le (by have := HZ.out; omega)])
      clear HE
      go_wp2_with fail
      go_ret
      exact ⟨by unfold sumI; rw [← HN.out]; exact ret_u (by omega), rfl⟩
end Go.Proofs.YthogafecplhckaaDoor
