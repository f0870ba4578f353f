/- Bytes' kinds, and where what a closure takes ends. -/
import Derived.Test.YtcpbjcemlkohkaaDoorK
namespace Go.Proofs.YtcpbjcemlkohkaaDoor
open Go.RowKit
set_option linter.unusedSimpArgs false
set_option linter.unusedVariables false
theorem isL_iff (c : UInt8) : isL c = true ↔ 97 ≤ c.toNat ∧ c.toNat ≤ 122 := by simp [isL]
theorem isF_iff (c : UInt8) : isF c = true ↔ 48 ≤ c.toNat ∧ c.toNat ≤ 57 := by simp [isF]
theorem c_eq (c : UInt8) (k : Nat) (hk : k < 256) : (c == UInt8.ofNat k) = ((c.toNat : Int) == (k : Int)) := by
  rw [Bool.eq_iff_iff, beq_iff_eq, beq_iff_eq]
  constructor
  · rintro rfl; simp; omega
  · intro h
    apply UInt8.toNat_inj.1
    simp; omega
set_option maxRecDepth 100000 in
set_option maxHeartbeats 4000000 in
theorem letter_any (c : UInt8) (w : World) (r : Bool) (hr : r = isL c) : Calls Tryd.prog 27 #[.int .u8 (c.toNat : Int)] w fun e w' => e = .returned (.bool r) ∧ w = w' := by
  obtain ⟨x, hx⟩ : ∃ x, x = c.toNat := ⟨_, rfl⟩
  have hx2 : x < 256 := by rw [hx]; exact c.toNat_lt
  have hp : isL c = (decide (97 ≤ x) && decide (x ≤ 122)) := by rw [hx]; rfl
  rw [hp] at hr
  rw [← hx]
  clear hp hx
  by_cases h1 : 97 ≤ x
  · by_cases h2 : x ≤ 122
    · obtain rfl : r = true := by rw [hr]; simp [h1, h2]
      have g1 : (97 : Int) ≤ (x : Int) := by omega
      have g2 : (x : Int) ≤ (122 : Int) := by omega
      clear hr h1 h2
      go_enter Tryd.func27, Tryd.ntmps27
      go_wp2
      go_ret
      exact ⟨rfl, rfl⟩
    · obtain rfl : r = false := by rw [hr]; simp [h1, h2]
      have g1 : (97 : Int) ≤ (x : Int) := by omega
      have g2 : ¬ (x : Int) ≤ (122 : Int) := by omega
      clear hr h1 h2
      go_enter Tryd.func27, Tryd.ntmps27
      go_wp2
      go_ret
      exact ⟨rfl, rfl⟩
  · obtain rfl : r = false := by rw [hr]; simp [h1]
    have g1 : ¬ (97 : Int) ≤ (x : Int) := by omega
    clear hr h1
    go_enter Tryd.func27, Tryd.ntmps27
    go_wp2
    go_ret
    exact ⟨rfl, rfl⟩
set_option maxRecDepth 100000 in
set_option maxHeartbeats 4000000 in
theorem figure_any (c : UInt8) (w : World) (r : Bool) (hr : r = isF c) : Calls Tryd.prog 29 #[.int .u8 (c.toNat : Int)] w fun e w' => e = .returned (.bool r) ∧ w = w' := by
  obtain ⟨x, hx⟩ : ∃ x, x = c.toNat := ⟨_, rfl⟩
  have hx2 : x < 256 := by rw [hx]; exact c.toNat_lt
  have hp : isF c = (decide (48 ≤ x) && decide (x ≤ 57)) := by rw [hx]; rfl
  rw [hp] at hr
  rw [← hx]
  clear hp hx
  by_cases h1 : 48 ≤ x
  · by_cases h2 : x ≤ 57
    · obtain rfl : r = true := by rw [hr]; simp [h1, h2]
      have g1 : (48 : Int) ≤ (x : Int) := by omega
      have g2 : (x : Int) ≤ (57 : Int) := by omega
      clear hr h1 h2
      go_enter Tryd.func29, Tryd.ntmps29
      go_wp2
      go_ret
      exact ⟨rfl, rfl⟩
    · obtain rfl : r = false := by rw [hr]; simp [h1, h2]
      have g1 : (48 : Int) ≤ (x : Int) := by omega
      have g2 : ¬ (x : Int) ≤ (57 : Int) := by omega
      clear hr h1 h2
      go_enter Tryd.func29, Tryd.ntmps29
      go_wp2
      go_ret
      exact ⟨rfl, rfl⟩
  · obtain rfl : r = false := by rw [hr]; simp [h1]
    have g1 : ¬ (48 : Int) ≤ (x : Int) := by omega
    clear hr h1
    go_enter Tryd.func29, Tryd.ntmps29
    go_wp2
    go_ret
    exact ⟨rfl, rfl⟩
set_option maxRecDepth 100000 in
set_option maxHeartbeats 4000000 in
theorem refletter_any (c : UInt8) (w : World) (r : Bool) (hr : r = isL c) : Calls Tryd.prog 18 #[.int .u8 (c.toNat : Int)] w fun e w' => e = .returned (.bool r) ∧ w = w' := by
  obtain ⟨x, hx⟩ : ∃ x, x = c.toNat := ⟨_, rfl⟩
  have hx2 : x < 256 := by rw [hx]; exact c.toNat_lt
  have hp : isL c = (decide (97 ≤ x) && decide (x ≤ 122)) := by rw [hx]; rfl
  rw [hp] at hr
  rw [← hx]
  clear hp hx
  by_cases h1 : 97 ≤ x
  · by_cases h2 : x ≤ 122
    · obtain rfl : r = true := by rw [hr]; simp [h1, h2]
      have g1 : (97 : Int) ≤ (x : Int) := by omega
      have g2 : (x : Int) ≤ (122 : Int) := by omega
      clear hr h1 h2
      go_enter Tryd.func18, Tryd.ntmps18
      go_wp2
      go_ret
      exact ⟨rfl, rfl⟩
    · obtain rfl : r = false := by rw [hr]; simp [h1, h2]
      have g1 : (97 : Int) ≤ (x : Int) := by omega
      have g2 : ¬ (x : Int) ≤ (122 : Int) := by omega
      clear hr h1 h2
      go_enter Tryd.func18, Tryd.ntmps18
      go_wp2
      go_ret
      exact ⟨rfl, rfl⟩
  · obtain rfl : r = false := by rw [hr]; simp [h1]
    have g1 : ¬ (97 : Int) ≤ (x : Int) := by omega
    clear hr h1
    go_enter Tryd.func18, Tryd.ntmps18
    go_wp2
    go_ret
    exact ⟨rfl, rfl⟩
set_option maxRecDepth 100000 in
set_option maxHeartbeats 4000000 in
theorem reffigure_any (c : UInt8) (w : World) (r : Bool) (hr : r = isF c) : Calls Tryd.prog 19 #[.int .u8 (c.toNat : Int)] w fun e w' => e = .returned (.bool r) ∧ w = w' := by
  obtain ⟨x, hx⟩ : ∃ x, x = c.toNat := ⟨_, rfl⟩
  have hx2 : x < 256 := by rw [hx]; exact c.toNat_lt
  have hp : isF c = (decide (48 ≤ x) && decide (x ≤ 57)) := by rw [hx]; rfl
  rw [hp] at hr
  rw [← hx]
  clear hp hx
  by_cases h1 : 48 ≤ x
  · by_cases h2 : x ≤ 57
    · obtain rfl : r = true := by rw [hr]; simp [h1, h2]
      have g1 : (48 : Int) ≤ (x : Int) := by omega
      have g2 : (x : Int) ≤ (57 : Int) := by omega
      clear hr h1 h2
      go_enter Tryd.func19, Tryd.ntmps19
      go_wp2
      go_ret
      exact ⟨rfl, rfl⟩
    · obtain rfl : r = false := by rw [hr]; simp [h1, h2]
      have g1 : (48 : Int) ≤ (x : Int) := by omega
      have g2 : ¬ (x : Int) ≤ (57 : Int) := by omega
      clear hr h1 h2
      go_enter Tryd.func19, Tryd.ntmps19
      go_wp2
      go_ret
      exact ⟨rfl, rfl⟩
  · obtain rfl : r = false := by rw [hr]; simp [h1]
    have g1 : ¬ (48 : Int) ≤ (x : Int) := by omega
    clear hr h1
    go_enter Tryd.func19, Tryd.ntmps19
    go_wp2
    go_ret
    exact ⟨rfl, rfl⟩
set_option maxRecDepth 100000 in
set_option maxHeartbeats 4000000 in
theorem wordc_any (c : UInt8) (w : World) (r : Bool) (hr : r = isW c) : Calls Tryd.prog 41 #[.int .u8 (c.toNat : Int)] w fun e w' => e = .returned (.bool r) ∧ w = w' := by
  have HR := Lib.hid hr
  clear hr
  have h5 := Lib.hid (c_eq c 95 (by omega))
  go_enter Tryd.func41, Tryd.ntmps41
  go_wp2_with fail
  obtain ⟨a, ha⟩ : ∃ a, a = isL c := ⟨_, rfl⟩
  refine (letter_any c _ a ha).mono ?_
  rintro e w1 ⟨rfl, rfl⟩
  have HA := Lib.hid ha
  clear ha
  cases a with
  | true =>
    go_wp2_with fail
    go_ret
    exact ⟨ret_bool (by rw [HR.out]; unfold isW; rw [← HA.out]; rfl), rfl⟩
  | false =>
    go_wp2_with fail
    obtain ⟨b, hb⟩ : ∃ b, b = isF c := ⟨_, rfl⟩
    refine (figure_any c _ b hb).mono ?_
    rintro e w1 ⟨rfl, rfl⟩
    have HB := Lib.hid hb
    clear hb
    cases b with
    | true =>
      go_wp2_with fail
      go_ret
      exact ⟨ret_bool (by rw [HR.out]; unfold isW; rw [← HA.out, ← HB.out]; rfl), rfl⟩
    | false =>
      go_wp2_with fail
      go_ret
      exact ⟨ret_bool (by rw [HR.out]; unfold isW; rw [← HA.out, ← HB.out]; have h := h5.out; simpa using h.symm), rfl⟩
set_option maxRecDepth 100000 in
set_option maxHeartbeats 4000000 in
theorem quotec_any (c : UInt8) (w : World) (r : Bool) (hr : r = notQ c) : Calls Tryd.prog 44 #[.int .u8 (c.toNat : Int)] w fun e w' => e = .returned (.bool r) ∧ w = w' := by
  have HR := Lib.hid hr
  clear hr
  have h5 := Lib.hid (c_eq c 34 (by omega))
  go_enter Tryd.func44, Tryd.ntmps44
  go_wp2_with fail
  go_ret
  exact ⟨ret_bool (by rw [HR.out]; unfold notQ; have h := h5.out; have h2 : (c == 34) = ((c.toNat : Int) == 34) := h; rw [h2]; rfl), rfl⟩
theorem cnt_step (p : UInt8 → Bool) (r : List UInt8) {k : Nat} (hk : k < r.length) (h : k ≤ cnt p r) : k < cnt p r ↔ p r[k] = true := by
  constructor
  · intro hlt
    have e : r[k] ∈ r.take (cnt p r) := List.mem_take_iff_getElem.2 ⟨k, by omega, rfl⟩
    exact mem_cnt p r e
  · intro hp
    rcases Nat.lt_or_ge k (cnt p r) with h1 | h1
    · exact h1
    · have e : cnt p r = k := by omega
      have := at_cnt p r (c := r[k]) (by rw [e]; exact List.getElem?_eq_getElem hk)
      rw [hp] at this; cases this
set_option maxRecDepth 100000 in
set_option maxHeartbeats 4000000 in
theorem endw_any (s : ByteArray) (w : World) (hs : s.size ≤ 1000000) (h0 : 0 < s.size) (n : Nat) (hn : n = 1 + cnt isW ((dat s).drop 1)) : Calls Tryd.prog 40 #[.string s, .func (.func 41) #[] #[]] w fun e w' => e = .returned (.int .i64 (n : Int)) ∧ w = w' := by
  have HN := Lib.hid hn
  obtain ⟨z, hz⟩ : ∃ z, s.size = z := ⟨_, rfl⟩
  have hl : ((dat s).drop 1).length = z - 1 := by rw [List.length_drop, dat_len, hz]
  have HL := Lib.hid hl
  have hz0 : 0 < z := by omega
  have hz1 : z ≤ 1000000 := by omega
  clear hn hs h0 hl
  go_enter Tryd.func40, Tryd.ntmps40
  go_wp2_with fail
  go_loop [5] (fun i => ∃ k : Nat, i = .int .i64 ((k + 1 : Nat) : Int) ∧ k + 1 ≤ z ∧ k ≤ cnt isW ((dat s).drop 1)) (fun i => z - (intOf i).toNat)
  case atStart => exact ⟨0, rfl, by omega, Nat.zero_le _⟩
  case round =>
    obtain ⟨k, rfl, hk, hc⟩ := hrel
    by_cases hlt : k + 1 < z
    · have hki : ((k + 1 : Nat) : Int) < (z : Int) := by omega
      have hks : k + 1 < s.size := by omega
      obtain ⟨b, hb⟩ : ∃ b, b = isW s[k+1] := ⟨_, rfl⟩
      have hg : ((dat s).drop 1)[k]'(by rw [HL.out]; omega) = s[k+1] := by rw [List.getElem_drop]; simp [dat, Nat.add_comm]; rfl
      have HS := Lib.hid (cnt_step isW ((dat s).drop 1) (k := k) (by rw [HL.out]; omega) hc)
      rw [hg, ← hb] at HS
      have HB := Lib.hid hb
      clear hg hb
      go_wp2_with fail
      refine (wordc_any s[k+1] _ b HB.out).mono ?_
      rintro e w1 ⟨rfl, rfl⟩
      cases b with
      | true =>
        go_wp2_with fail
        go_round
        case rel => exact ⟨k + 1, by go_num, by omega, HS.out.2 (by trivial)⟩
        case measure => simp [intOf]; omega
      | false =>
        have HC := Lib.hid (show k = cnt isW ((dat s).drop 1) by
          have h1 : ¬ k < cnt isW ((dat s).drop 1) := fun h => by have := HS.out.1 h; cases this
          omega)
        go_wp2_with fail
        go_ret
        exact ⟨ret_int (by have := HN.out; have := HC.out; omega), rfl⟩
    · have hki : ¬ ((k + 1 : Nat) : Int) < (z : Int) := by omega
      have HC := Lib.hid (show k = cnt isW ((dat s).drop 1) by have := cnt_le isW ((dat s).drop 1); have := HL.out; omega)
      go_wp2_with fail
      go_ret
      exact ⟨ret_int (by have := HN.out; have := HC.out; omega), rfl⟩
set_option maxRecDepth 100000 in
set_option maxHeartbeats 4000000 in
theorem endf_any (s : ByteArray) (w : World) (hs : s.size ≤ 1000000) (h0 : 0 < s.size) (n : Nat) (hn : n = 1 + cnt isF ((dat s).drop 1)) : Calls Tryd.prog 40 #[.string s, .func (.func 29) #[] #[]] w fun e w' => e = .returned (.int .i64 (n : Int)) ∧ w = w' := by
  have HN := Lib.hid hn
  obtain ⟨z, hz⟩ : ∃ z, s.size = z := ⟨_, rfl⟩
  have hl : ((dat s).drop 1).length = z - 1 := by rw [List.length_drop, dat_len, hz]
  have HL := Lib.hid hl
  have hz0 : 0 < z := by omega
  have hz1 : z ≤ 1000000 := by omega
  clear hn hs h0 hl
  go_enter Tryd.func40, Tryd.ntmps40
  go_wp2_with fail
  go_loop [5] (fun i => ∃ k : Nat, i = .int .i64 ((k + 1 : Nat) : Int) ∧ k + 1 ≤ z ∧ k ≤ cnt isF ((dat s).drop 1)) (fun i => z - (intOf i).toNat)
  case atStart => exact ⟨0, rfl, by omega, Nat.zero_le _⟩
  case round =>
    obtain ⟨k, rfl, hk, hc⟩ := hrel
    by_cases hlt : k + 1 < z
    · have hki : ((k + 1 : Nat) : Int) < (z : Int) := by omega
      have hks : k + 1 < s.size := by omega
      obtain ⟨b, hb⟩ : ∃ b, b = isF s[k+1] := ⟨_, rfl⟩
      have hg : ((dat s).drop 1)[k]'(by rw [HL.out]; omega) = s[k+1] := by rw [List.getElem_drop]; simp [dat, Nat.add_comm]; rfl
      have HS := Lib.hid (cnt_step isF ((dat s).drop 1) (k := k) (by rw [HL.out]; omega) hc)
      rw [hg, ← hb] at HS
      have HB := Lib.hid hb
      clear hg hb
      go_wp2_with fail
      refine (figure_any s[k+1] _ b HB.out).mono ?_
      rintro e w1 ⟨rfl, rfl⟩
      cases b with
      | true =>
        go_wp2_with fail
        go_round
        case rel => exact ⟨k + 1, by go_num, by omega, HS.out.2 (by trivial)⟩
        case measure => simp [intOf]; omega
      | false =>
        have HC := Lib.hid (show k = cnt isF ((dat s).drop 1) by
          have h1 : ¬ k < cnt isF ((dat s).drop 1) := fun h => by have := HS.out.1 h; cases this
          omega)
        go_wp2_with fail
        go_ret
        exact ⟨ret_int (by have := HN.out; have := HC.out; omega), rfl⟩
    · have hki : ¬ ((k + 1 : Nat) : Int) < (z : Int) := by omega
      have HC := Lib.hid (show k = cnt isF ((dat s).drop 1) by have := cnt_le isF ((dat s).drop 1); have := HL.out; omega)
      go_wp2_with fail
      go_ret
      exact ⟨ret_int (by have := HN.out; have := HC.out; omega), rfl⟩
set_option maxRecDepth 100000 in
set_option maxHeartbeats 4000000 in
theorem endq_any (s : ByteArray) (w : World) (hs : s.size ≤ 1000000) (h0 : 0 < s.size) (n : Nat) (hn : n = 1 + cnt notQ ((dat s).drop 1)) : Calls Tryd.prog 40 #[.string s, .func (.func 44) #[] #[]] w fun e w' => e = .returned (.int .i64 (n : Int)) ∧ w = w' := by
  have HN := Lib.hid hn
  obtain ⟨z, hz⟩ : ∃ z, s.size = z := ⟨_, rfl⟩
  have hl : ((dat s).drop 1).length = z - 1 := by rw [List.length_drop, dat_len, hz]
  have HL := Lib.hid hl
  have hz0 : 0 < z := by omega
  have hz1 : z ≤ 1000000 := by omega
  clear hn hs h0 hl
  go_enter Tryd.func40, Tryd.ntmps40
  go_wp2_with fail
  go_loop [5] (fun i => ∃ k : Nat, i = .int .i64 ((k + 1 : Nat) : Int) ∧ k + 1 ≤ z ∧ k ≤ cnt notQ ((dat s).drop 1)) (fun i => z - (intOf i).toNat)
  case atStart => exact ⟨0, rfl, by omega, Nat.zero_le _⟩
  case round =>
    obtain ⟨k, rfl, hk, hc⟩ := hrel
    by_cases hlt : k + 1 < z
    · have hki : ((k + 1 : Nat) : Int) < (z : Int) := by omega
      have hks : k + 1 < s.size := by omega
      obtain ⟨b, hb⟩ : ∃ b, b = notQ s[k+1] := ⟨_, rfl⟩
      have hg : ((dat s).drop 1)[k]'(by rw [HL.out]; omega) = s[k+1] := by rw [List.getElem_drop]; simp [dat, Nat.add_comm]; rfl
      have HS := Lib.hid (cnt_step notQ ((dat s).drop 1) (k := k) (by rw [HL.out]; omega) hc)
      rw [hg, ← hb] at HS
      have HB := Lib.hid hb
      clear hg hb
      go_wp2_with fail
      refine (quotec_any s[k+1] _ b HB.out).mono ?_
      rintro e w1 ⟨rfl, rfl⟩
      cases b with
      | true =>
        go_wp2_with fail
        go_round
        case rel => exact ⟨k + 1, by go_num, by omega, HS.out.2 (by trivial)⟩
        case measure => simp [intOf]; omega
      | false =>
        have HC := Lib.hid (show k = cnt notQ ((dat s).drop 1) by
          have h1 : ¬ k < cnt notQ ((dat s).drop 1) := fun h => by have := HS.out.1 h; cases this
          omega)
        go_wp2_with fail
        go_ret
        exact ⟨ret_int (by have := HN.out; have := HC.out; omega), rfl⟩
    · have hki : ¬ ((k + 1 : Nat) : Int) < (z : Int) := by omega
      have HC := Lib.hid (show k = cnt notQ ((dat s).drop 1) by have := cnt_le notQ ((dat s).drop 1); have := HL.out; omega)
      go_wp2_with fail
      go_ret
      exact ⟨ret_int (by have := HN.out; have := HC.out; omega), rfl⟩
end Go.Proofs.YtcpbjcemlkohkaaDoor
