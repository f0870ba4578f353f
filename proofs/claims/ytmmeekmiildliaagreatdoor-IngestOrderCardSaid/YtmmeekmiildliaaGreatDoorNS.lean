/- Find, Name, names, Subset (ported). -/
import Derived.Test.YtmmeekmiildliaaGreatDoorMA
import Derived.Laws.RangeString
import Derived.Laws.RangeAny
import Derived.WalkKit
import Derived.ProofKit
import Derived.OpenShut
import Derived.Below
import Derived.Lib.Hide
import Derived.WalkLawsBesides
import Derived.Laws.OwnMore
namespace Go.Proofs.YtmmeekmiildliaaGreatDoor
open Go.RowKit
set_option linter.unusedSimpArgs false
set_option linter.unusedVariables false
set_option maxRecDepth 100000 in
set_option maxHeartbeats 4000000 in
theorem index_any (A : Option Addr) (n c : Nat) (L : List ByteArray) (s : ByteArray) (w : World) (hA : Row w A (texts L)) (hz : n = L.length) (hn : n ≤ 9223372036854775807) :
    Calls Tryz.prog 134 #[.slice A n c, .string s] w fun e w' => (∃ o, FirstAt L s o ∧ e = .returned (.int .i64 (idxO o))) ∧ w = w' := by
  have HA := Lib.hid hA
  have HZ := Lib.hid hz
  clear hA hz
  go_enter Tryz.func134, Tryz.ntmps134
  go_wp2_with fail
  go_loopw [8] (fun i wr => ∃ k : Nat, k ≤ n ∧ i = .int .i64 k ∧ Hid (∀ (j : Nat) (h : j < L.length), j < k → L[j] ≠ s) ∧ wr = w) (fun i _ => n - (intOf i).toNat)
  case atStart => exact ⟨0, Nat.zero_le _, rfl, Lib.hid (fun j _ h => by omega), rfl⟩
  case round =>
    obtain ⟨k, hk, rfl, HK, rfl⟩ := hrel
    by_cases hlt : k < n
    · have hkz : k < L.length := by have := HZ.out; omega
      have hki : (k : Int) < (n : Int) := by omega
      have hk0 : (0 : Int) ≤ (k : Int) := by omega
      obtain ⟨b, off, rfl, c0⟩ := text_cell HA.out hkz
      obtain ⟨q, hq⟩ : ∃ q, q = L[k] := ⟨_, rfl⟩
      rw [← hq] at c0
      have HQ := Lib.hid hq
      clear hq
      by_cases hEq : s = q
      · subst hEq
        have HF := Lib.hid (show FirstAt L s (some k) from ⟨hkz, HQ.out.symm, fun j hj => HK.out j (by omega) hj⟩)
        clear hlt
        go_wp2_with fail
        go_ret
        exact ⟨⟨some k, HF.out, rfl⟩, rfl⟩
      · have hs1 := str_ne hEq
        have HK2 := Lib.hid (show ∀ (j : Nat) (h : j < L.length), j < k + 1 → L[j] ≠ s from fun j h hj => by
          rcases Nat.lt_or_ge j k with e | e
          · exact HK.out j h e
          · obtain rfl : j = k := by omega
            rw [← HQ.out]; exact fun e => hEq e.symm)
        clear hlt hEq
        go_wp2_with fail
        go_roundw
        case rel => exact ⟨k + 1, by omega, by go_num, HK2, by first | rfl | trivial⟩
        case measure => simp [intOf]; omega
    · have hge : ¬ (k : Int) < (n : Int) := by omega
      have HF := Lib.hid (show FirstAt L s none from fun j hj => HK.out j hj (by have := HZ.out; omega))
      clear hlt
      go_wp2_with fail
      go_ret
      exact ⟨⟨none, HF.out, rfl⟩, rfl⟩
set_option maxRecDepth 100000 in
set_option maxHeartbeats 4000000 in
theorem find_any (A : Option Addr) (n c : Nat) (L : List ByteArray) (s : ByteArray) (w : World) (hA : Row w A (texts L)) (hz : n = L.length) (hn : n ≤ 9223372036854775807) :
    Calls Tryz.prog 89 #[.slice A n c, .string s] w fun e w' => (∃ o, FirstAt L s o ∧ e = .returned (.tuple #[.int .i64 ((o.getD 0 : Nat) : Int), .bool o.isSome])) ∧ w = w' := by
  have HA := Lib.hid hA
  have HZ := Lib.hid hz
  clear hA hz
  go_enter Tryz.func89, Tryz.ntmps89
  go_wp2_with fail
  go_loopw [6] (fun i wr => ∃ k : Nat, k ≤ n ∧ i = .int .i64 k ∧ Hid (∀ (j : Nat) (h : j < L.length), j < k → L[j] ≠ s) ∧ wr = w) (fun i _ => n - (intOf i).toNat)
  case atStart => exact ⟨0, Nat.zero_le _, rfl, Lib.hid (fun j _ h => by omega), rfl⟩
  case round =>
    obtain ⟨k, hk, rfl, HK, rfl⟩ := hrel
    by_cases hlt : k < n
    · have hkz : k < L.length := by have := HZ.out; omega
      have hki : (k : Int) < (n : Int) := by omega
      have hk0 : (0 : Int) ≤ (k : Int) := by omega
      obtain ⟨b, off, rfl, c0⟩ := text_cell HA.out hkz
      obtain ⟨q, hq⟩ : ∃ q, q = L[k] := ⟨_, rfl⟩
      rw [← hq] at c0
      have HQ := Lib.hid hq
      clear hq
      by_cases hEq : s = q
      · subst hEq
        have HF := Lib.hid (show FirstAt L s (some k) from ⟨hkz, HQ.out.symm, fun j hj => HK.out j (by omega) hj⟩)
        clear hlt
        go_wp2_with fail
        go_ret2
        exact ⟨⟨some k, HF.out, rfl⟩, rfl⟩
      · have hs1 := str_ne (fun e => hEq e.symm)
        have HK2 := Lib.hid (show ∀ (j : Nat) (h : j < L.length), j < k + 1 → L[j] ≠ s from fun j h hj => by
          rcases Nat.lt_or_ge j k with e | e
          · exact HK.out j h e
          · obtain rfl : j = k := by omega
            rw [← HQ.out]; exact fun e => hEq e.symm)
        clear hlt hEq
        go_wp2_with fail
        go_roundw
        case rel => exact ⟨k + 1, by omega, by go_num, HK2, by first | rfl | trivial⟩
        case measure => simp [intOf]; omega
    · have hge : ¬ (k : Int) < (n : Int) := by omega
      have HF := Lib.hid (show FirstAt L s none from fun j hj => HK.out j hj (by have := HZ.out; omega))
      clear hlt
      go_wp2_with fail
      go_ret2
      exact ⟨⟨none, HF.out, rfl⟩, rfl⟩
end Go.Proofs.YtmmeekmiildliaaGreatDoor
namespace Go.Proofs.YtmmeekmiildliaaGreatDoor
open Go.RowKit
set_option linter.unusedSimpArgs false
set_option linter.unusedVariables false
end Go.Proofs.YtmmeekmiildliaaGreatDoor
namespace Go.Proofs.YtmmeekmiildliaaGreatDoor
open Go.RowKit
set_option linter.unusedSimpArgs false
set_option linter.unusedVariables false
set_option maxRecDepth 100000 in
set_option maxHeartbeats 4000000 in
theorem reserved_any (s : ByteArray) (w : World) (r : Bool) (hr : r = true ↔ s ∈ wordsL) :
    Calls Tryz.prog 116 #[.string s] w fun e w' => e = .returned (.bool r) ∧ w = w' := by
  by_cases h0 : s = ⟨#[99, 111, 117, 110, 116]⟩
  · obtain rfl : r = true := hr.2 (by rw [h0]; exact List.mem_of_getElem? (i := 0) rfl)
    subst h0
    clear hr
    go_enter Tryz.func116, Tryz.ntmps116
    go_wp2_with fail
    go_ret
    exact ⟨rfl, rfl⟩
  by_cases h1 : s = ⟨#[115, 117, 109]⟩
  · obtain rfl : r = true := hr.2 (by rw [h1]; exact List.mem_of_getElem? (i := 1) rfl)
    subst h1
    clear hr
    clear h0
    go_enter Tryz.func116, Tryz.ntmps116
    go_wp2_with fail
    go_ret
    exact ⟨rfl, rfl⟩
  by_cases h2 : s = ⟨#[109, 105, 110]⟩
  · obtain rfl : r = true := hr.2 (by rw [h2]; exact List.mem_of_getElem? (i := 2) rfl)
    subst h2
    clear hr
    clear h0 h1
    go_enter Tryz.func116, Tryz.ntmps116
    go_wp2_with fail
    go_ret
    exact ⟨rfl, rfl⟩
  by_cases h3 : s = ⟨#[109, 97, 120]⟩
  · obtain rfl : r = true := hr.2 (by rw [h3]; exact List.mem_of_getElem? (i := 3) rfl)
    subst h3
    clear hr
    clear h0 h1 h2
    go_enter Tryz.func116, Tryz.ntmps116
    go_wp2_with fail
    go_ret
    exact ⟨rfl, rfl⟩
  by_cases h4 : s = ⟨#[102, 114, 111, 109]⟩
  · obtain rfl : r = true := hr.2 (by rw [h4]; exact List.mem_of_getElem? (i := 4) rfl)
    subst h4
    clear hr
    clear h0 h1 h2 h3
    go_enter Tryz.func116, Tryz.ntmps116
    go_wp2_with fail
    go_ret
    exact ⟨rfl, rfl⟩
  by_cases h5 : s = ⟨#[116, 111]⟩
  · obtain rfl : r = true := hr.2 (by rw [h5]; exact List.mem_of_getElem? (i := 5) rfl)
    subst h5
    clear hr
    clear h0 h1 h2 h3 h4
    go_enter Tryz.func116, Tryz.ntmps116
    go_wp2_with fail
    go_ret
    exact ⟨rfl, rfl⟩
  by_cases h6 : s = ⟨#[98, 121]⟩
  · obtain rfl : r = true := hr.2 (by rw [h6]; exact List.mem_of_getElem? (i := 6) rfl)
    subst h6
    clear hr
    clear h0 h1 h2 h3 h4 h5
    go_enter Tryz.func116, Tryz.ntmps116
    go_wp2_with fail
    go_ret
    exact ⟨rfl, rfl⟩
  by_cases h7 : s = ⟨#[101, 118, 101, 114, 121]⟩
  · obtain rfl : r = true := hr.2 (by rw [h7]; exact List.mem_of_getElem? (i := 7) rfl)
    subst h7
    clear hr
    clear h0 h1 h2 h3 h4 h5 h6
    go_enter Tryz.func116, Tryz.ntmps116
    go_wp2_with fail
    go_ret
    exact ⟨rfl, rfl⟩
  by_cases h8 : s = ⟨#[119, 104, 101, 114, 101]⟩
  · obtain rfl : r = true := hr.2 (by rw [h8]; exact List.mem_of_getElem? (i := 8) rfl)
    subst h8
    clear hr
    clear h0 h1 h2 h3 h4 h5 h6 h7
    go_enter Tryz.func116, Tryz.ntmps116
    go_wp2_with fail
    go_ret
    exact ⟨rfl, rfl⟩
  by_cases h9 : s = ⟨#[104, 97, 118, 105, 110, 103]⟩
  · obtain rfl : r = true := hr.2 (by rw [h9]; exact List.mem_of_getElem? (i := 9) rfl)
    subst h9
    clear hr
    clear h0 h1 h2 h3 h4 h5 h6 h7 h8
    go_enter Tryz.func116, Tryz.ntmps116
    go_wp2_with fail
    go_ret
    exact ⟨rfl, rfl⟩
  by_cases h10 : s = ⟨#[111, 114, 100, 101, 114]⟩
  · obtain rfl : r = true := hr.2 (by rw [h10]; exact List.mem_of_getElem? (i := 10) rfl)
    subst h10
    clear hr
    clear h0 h1 h2 h3 h4 h5 h6 h7 h8 h9
    go_enter Tryz.func116, Tryz.ntmps116
    go_wp2_with fail
    go_ret
    exact ⟨rfl, rfl⟩
  by_cases h11 : s = ⟨#[108, 105, 109, 105, 116]⟩
  · obtain rfl : r = true := hr.2 (by rw [h11]; exact List.mem_of_getElem? (i := 11) rfl)
    subst h11
    clear hr
    clear h0 h1 h2 h3 h4 h5 h6 h7 h8 h9 h10
    go_enter Tryz.func116, Tryz.ntmps116
    go_wp2_with fail
    go_ret
    exact ⟨rfl, rfl⟩
  by_cases h12 : s = ⟨#[97, 110, 100]⟩
  · obtain rfl : r = true := hr.2 (by rw [h12]; exact List.mem_of_getElem? (i := 12) rfl)
    subst h12
    clear hr
    clear h0 h1 h2 h3 h4 h5 h6 h7 h8 h9 h10 h11
    go_enter Tryz.func116, Tryz.ntmps116
    go_wp2_with fail
    go_ret
    exact ⟨rfl, rfl⟩
  by_cases h13 : s = ⟨#[111, 114]⟩
  · obtain rfl : r = true := hr.2 (by rw [h13]; exact List.mem_of_getElem? (i := 13) rfl)
    subst h13
    clear hr
    clear h0 h1 h2 h3 h4 h5 h6 h7 h8 h9 h10 h11 h12
    go_enter Tryz.func116, Tryz.ntmps116
    go_wp2_with fail
    go_ret
    exact ⟨rfl, rfl⟩
  by_cases h14 : s = ⟨#[110, 111, 116]⟩
  · obtain rfl : r = true := hr.2 (by rw [h14]; exact List.mem_of_getElem? (i := 14) rfl)
    subst h14
    clear hr
    clear h0 h1 h2 h3 h4 h5 h6 h7 h8 h9 h10 h11 h12 h13
    go_enter Tryz.func116, Tryz.ntmps116
    go_wp2_with fail
    go_ret
    exact ⟨rfl, rfl⟩
  by_cases h15 : s = ⟨#[105, 115]⟩
  · obtain rfl : r = true := hr.2 (by rw [h15]; exact List.mem_of_getElem? (i := 15) rfl)
    subst h15
    clear hr
    clear h0 h1 h2 h3 h4 h5 h6 h7 h8 h9 h10 h11 h12 h13 h14
    go_enter Tryz.func116, Tryz.ntmps116
    go_wp2_with fail
    go_ret
    exact ⟨rfl, rfl⟩
  by_cases h16 : s = ⟨#[110, 117, 108, 108]⟩
  · obtain rfl : r = true := hr.2 (by rw [h16]; exact List.mem_of_getElem? (i := 16) rfl)
    subst h16
    clear hr
    clear h0 h1 h2 h3 h4 h5 h6 h7 h8 h9 h10 h11 h12 h13 h14 h15
    go_enter Tryz.func116, Tryz.ntmps116
    go_wp2_with fail
    go_ret
    exact ⟨rfl, rfl⟩
  by_cases h17 : s = ⟨#[97, 115, 99]⟩
  · obtain rfl : r = true := hr.2 (by rw [h17]; exact List.mem_of_getElem? (i := 17) rfl)
    subst h17
    clear hr
    clear h0 h1 h2 h3 h4 h5 h6 h7 h8 h9 h10 h11 h12 h13 h14 h15 h16
    go_enter Tryz.func116, Tryz.ntmps116
    go_wp2_with fail
    go_ret
    exact ⟨rfl, rfl⟩
  by_cases h18 : s = ⟨#[100, 101, 115, 99]⟩
  · obtain rfl : r = true := hr.2 (by rw [h18]; exact List.mem_of_getElem? (i := 18) rfl)
    subst h18
    clear hr
    clear h0 h1 h2 h3 h4 h5 h6 h7 h8 h9 h10 h11 h12 h13 h14 h15 h16 h17
    go_enter Tryz.func116, Tryz.ntmps116
    go_wp2_with fail
    go_ret
    exact ⟨rfl, rfl⟩
  by_cases h19 : s = ⟨#[115, 101, 108, 101, 99, 116]⟩
  · obtain rfl : r = true := hr.2 (by rw [h19]; exact List.mem_of_getElem? (i := 19) rfl)
    subst h19
    clear hr
    clear h0 h1 h2 h3 h4 h5 h6 h7 h8 h9 h10 h11 h12 h13 h14 h15 h16 h17 h18
    go_enter Tryz.func116, Tryz.ntmps116
    go_wp2_with fail
    go_ret
    exact ⟨rfl, rfl⟩
  obtain rfl : r = false := by
    cases r with
    | false => rfl
    | true => have := hr.1 rfl; simp [wordsL, h0, h1, h2, h3, h4, h5, h6, h7, h8, h9, h10, h11, h12, h13, h14, h15, h16, h17, h18, h19] at this
  have k0 := str_ne_lit h0
  have k1 := str_ne_lit h1
  have k2 := str_ne_lit h2
  have k3 := str_ne_lit h3
  have k4 := str_ne_lit h4
  have k5 := str_ne_lit h5
  have k6 := str_ne_lit h6
  have k7 := str_ne_lit h7
  have k8 := str_ne_lit h8
  have k9 := str_ne_lit h9
  have k10 := str_ne_lit h10
  have k11 := str_ne_lit h11
  have k12 := str_ne_lit h12
  have k13 := str_ne_lit h13
  have k14 := str_ne_lit h14
  have k15 := str_ne_lit h15
  have k16 := str_ne_lit h16
  have k17 := str_ne_lit h17
  have k18 := str_ne_lit h18
  have k19 := str_ne_lit h19
  clear hr h0 h1 h2 h3 h4 h5 h6 h7 h8 h9 h10 h11 h12 h13 h14 h15 h16 h17 h18 h19
  go_enter Tryz.func116, Tryz.ntmps116
  go_wp2_with fail
  go_ret
  exact ⟨rfl, rfl⟩
end Go.Proofs.YtmmeekmiildliaaGreatDoor
namespace Go.Proofs.YtmmeekmiildliaaGreatDoor
open Go.RowKit
set_option linter.unusedSimpArgs false
set_option linter.unusedVariables false
set_option maxRecDepth 100000 in
set_option maxHeartbeats 4000000 in
theorem name_any (s : ByteArray) (w : World) (hs : s.size ≤ 9223372036854775807) (r : Bool) (hr : r = true ↔ nameP s) :
    Calls Tryz.prog 95 #[.string s] w fun e w' => e = .returned (.bool r) ∧ Below w.heap.size w w' := by
  have HR := Lib.hid hr
  clear hr
  by_cases h0 : s = ⟨#[]⟩
  · obtain rfl : r = false := by
      cases r with
      | false => rfl
      | true => have := (HR.out.1 rfl).1; rw [h0] at this; simp [ByteArray.size] at this
    subst h0
    go_enter Tryz.func95, Tryz.ntmps95
    go_wp2_with fail
    go_ret
    exact ⟨rfl, Below.refl _ _⟩
  have k0 : (s.toList == []) = false := str_ne_lit (l := []) h0
  obtain ⟨z, hz⟩ : ∃ z, z = s.size := ⟨_, rfl⟩
  have hz2 : s.size = z := hz.symm
  have hz1 : 1 ≤ z := by
    rcases Nat.eq_zero_or_pos s.size with h | h
    · exact absurd (by cases s with | mk d => simp [ByteArray.size] at h; rw [h]) h0
    · omega
  by_cases h12 : 12 < z
  · have hd : decide ((12 : Int) < (z : Int)) = true := by simp; omega
    obtain rfl : r = false := by
      cases r with
      | false => rfl
      | true => have := (HR.out.1 rfl).2.1; omega
    clear h0 hz h12
    go_enter Tryz.func95, Tryz.ntmps95
    go_wp2_with fail
    go_ret
    exact ⟨rfl, Below.refl _ _⟩
  have hd : decide ((12 : Int) < (z : Int)) = false := by simp; omega
  have h12' : z ≤ 12 := by omega
  obtain ⟨q, hq⟩ : ∃ q : Bool, q = true ↔ s ∈ wordsL := by
    by_cases h : s ∈ wordsL
    · exact ⟨true, by simp [h]⟩
    · exact ⟨false, by simp [h]⟩
  have HQ := Lib.hid hq
  clear h0 hz h12 hq
  go_enter Tryz.func95, Tryz.ntmps95
  go_wp2_with fail
  refine (reserved_any s _ q HQ.out).mono ?_
  rintro e w1 ⟨rfl, rfl⟩
  cases q with
  | true =>
    obtain rfl : r = false := by
      cases r with
      | false => rfl
      | true => exact absurd (HQ.out.1 rfl) (HR.out.1 rfl).2.2.1
    go_wp2_with fail
    go_ret
    exact ⟨rfl, Below.refl _ _⟩
  | false =>
    go_wp2_with fail
    go_loopw [3] (fun v wr => ∃ pos : Nat, pos ≤ s.size ∧ wr = w.iter s pos ∧ Hid (∀ (i : Nat) (h : i < s.size), i < pos → okN i (s[i]'h).toNat)) (fun _ wr => s.size - wr.iterPos w.heap.size)
    case atStart => exact ⟨0, by omega, rfl, Lib.hid (fun i _ h => by omega)⟩
    case round =>
      obtain ⟨pos, hps, rfl, HO⟩ := hrel
      by_cases hp : pos < s.size
      · by_cases ha : (s[pos]'hp).toNat < 128
        · obtain ⟨b, hb⟩ : ∃ b, b = (s[pos]'hp).toNat := ⟨_, rfl⟩
          have hnx : ∀ ty, (Instr.next (.pointer (some ⟨w.heap.size, 0, none⟩)) true ty).run Tryz.prog (w.iter s pos) = .ok (.tuple #[.bool true, .int .i64 pos, .int .i32 b]) (w.iter s (pos + 1)) := fun ty => by
            have h := run_next_any (P := Tryz.prog) w s pos ty hp
            rw [decode_ascii s pos hp ha, ← hb] at h; exact h
          have HB := Lib.hid hb
          have HN := Lib.hid (show okN pos b → ∀ (i : Nat) (h : i < s.size), i < pos + 1 → okN i (s[i]'h).toNat from fun hk i h hi => by
            rcases Nat.lt_or_ge i pos with e | e
            · exact HO.out i h e
            · obtain rfl : i = pos := by omega
              rw [← HB.out]; exact hk)
          have HNO := Lib.hid (show ¬ okN pos b → r = false from fun hk => by
            cases r with
            | false => rfl
            | true => exact absurd (by have := (HR.out.1 rfl).2.2.2 pos hp; rw [← HB.out] at this; exact this) hk)
          clear ha hb
          by_cases hl : 97 ≤ b ∧ b ≤ 122
          · have d1 : decide ((97 : Int) ≤ (b : Int)) = true := by simp; omega
            have d2 : decide ((b : Int) ≤ 122) = true := by simp; omega
            have HN2 := Lib.hid (HN.out (.inl hl))
            clear hl
            go_wp2_with fail
            go_roundw
            case rel => exact ⟨pos + 1, by omega, rfl, HN2⟩
            case measure => simp; omega
          · by_cases hg : (48 ≤ b ∧ b ≤ 57) ∨ b = 95
            · by_cases hp0 : pos = 0
              · have d6 : ((pos : Int) == 0) = true := by rw [beq_iff_eq]; omega
                obtain rfl : r = false := HNO.out (fun h => by rcases h with h | ⟨h, _⟩ <;> omega)
                rcases hg with hg | hg
                · have d1 : decide ((97 : Int) ≤ (b : Int)) = false := by simp; omega
                  have d3 : decide ((48 : Int) ≤ (b : Int)) = true := by simp; omega
                  have d4 : decide ((b : Int) ≤ 57) = true := by simp; omega
                  clear hl hg hp0
                  go_wp2_with fail
                  go_ret
                  exact ⟨rfl, bpush (Below.refl _ _) _⟩
                · have d1 : decide ((97 : Int) ≤ (b : Int)) = false := by simp; omega
                  have d3 : decide ((48 : Int) ≤ (b : Int)) = true := by simp; omega
                  have d4 : decide ((b : Int) ≤ 57) = false := by simp; omega
                  have d5 : ((b : Int) == 95) = true := by rw [beq_iff_eq]; omega
                  clear hl hg hp0
                  go_wp2_with fail
                  go_ret
                  exact ⟨rfl, bpush (Below.refl _ _) _⟩
              · have d6 : ((pos : Int) == 0) = false := by rw [beq_eq_false_iff_ne]; omega
                have HN2 := Lib.hid (HN.out (.inr ⟨by omega, hg⟩))
                rcases hg with hg | hg
                · have d1 : decide ((97 : Int) ≤ (b : Int)) = false := by simp; omega
                  have d3 : decide ((48 : Int) ≤ (b : Int)) = true := by simp; omega
                  have d4 : decide ((b : Int) ≤ 57) = true := by simp; omega
                  clear hl hg hp0
                  go_wp2_with fail
                  go_roundw
                  case rel => exact ⟨pos + 1, by omega, rfl, HN2⟩
                  case measure => simp; omega
                · have d1 : decide ((97 : Int) ≤ (b : Int)) = false := by simp; omega
                  have d3 : decide ((48 : Int) ≤ (b : Int)) = true := by simp; omega
                  have d4 : decide ((b : Int) ≤ 57) = false := by simp; omega
                  have d5 : ((b : Int) == 95) = true := by rw [beq_iff_eq]; omega
                  clear hl hg hp0
                  go_wp2_with fail
                  go_roundw
                  case rel => exact ⟨pos + 1, by omega, rfl, HN2⟩
                  case measure => simp; omega
            · obtain rfl : r = false := HNO.out (fun h => by rcases h with h | ⟨_, h⟩ <;> omega)
              by_cases hc1 : b < 48
              · have d1 : decide ((97 : Int) ≤ (b : Int)) = false := by simp; omega
                have d3 : decide ((48 : Int) ≤ (b : Int)) = false := by simp; omega
                have d5 : ((b : Int) == 95) = false := by rw [beq_eq_false_iff_ne]; omega
                clear hl hg hc1
                go_wp2_with fail
                go_ret
                exact ⟨rfl, bpush (Below.refl _ _) _⟩
              by_cases hc2 : b < 97
              · have d1 : decide ((97 : Int) ≤ (b : Int)) = false := by simp; omega
                have d3 : decide ((48 : Int) ≤ (b : Int)) = true := by simp; omega
                have d4 : decide ((b : Int) ≤ 57) = false := by simp; omega
                have d5 : ((b : Int) == 95) = false := by rw [beq_eq_false_iff_ne]; omega
                clear hl hg hc1 hc2
                go_wp2_with fail
                go_ret
                exact ⟨rfl, bpush (Below.refl _ _) _⟩
              · have d1 : decide ((97 : Int) ≤ (b : Int)) = true := by simp; omega
                have d2 : decide ((b : Int) ≤ 122) = false := by simp; omega
                have d3 : decide ((48 : Int) ≤ (b : Int)) = true := by simp; omega
                have d4 : decide ((b : Int) ≤ 57) = false := by simp; omega
                have d5 : ((b : Int) == 95) = false := by rw [beq_eq_false_iff_ne]; omega
                clear hl hg hc1 hc2
                go_wp2_with fail
                go_ret
                exact ⟨rfl, bpush (Below.refl _ _) _⟩
        · obtain ⟨hh1, _⟩ := decode_high s pos hp (by omega)
          have hnx : ∀ ty, (Instr.next (.pointer (some ⟨w.heap.size, 0, none⟩)) true ty).run Tryz.prog (w.iter s pos) = _ := fun ty => run_next_any (P := Tryz.prog) w s pos ty hp
          obtain ⟨b, hb⟩ : ∃ b, b = (Utf8.decode s pos).1 := ⟨_, rfl⟩
          obtain ⟨wd, hwd⟩ : ∃ wd, wd = (Utf8.decode s pos).2 := ⟨_, rfl⟩
          simp only [← hb, ← hwd] at hnx hh1
          obtain rfl : r = false := by
            cases r with
            | false => rfl
            | true =>
              have h := (HR.out.1 rfl).2.2.2 pos hp
              rcases h with h | ⟨_, h⟩ <;> omega
          have d1 : decide ((97 : Int) ≤ (b : Int)) = true := by simp; omega
          have d2 : decide ((b : Int) ≤ 122) = false := by simp; omega
          have d3 : decide ((48 : Int) ≤ (b : Int)) = true := by simp; omega
          have d4 : decide ((b : Int) ≤ 57) = false := by simp; omega
          have d5 : ((b : Int) == 95) = false := by rw [beq_eq_false_iff_ne]; omega
          clear hb hwd ha hh1
          go_wp2_with fail
          go_ret
          exact ⟨rfl, bpush (Below.refl _ _) _⟩
      · have hnx : ∀ ty, (Instr.next (.pointer (some ⟨w.heap.size, 0, none⟩)) true ty).run Tryz.prog (w.iter s pos) = _ := fun ty => run_next_end w s pos ty hp
        obtain rfl : r = true := HR.out.2 ⟨by omega, by omega, fun h => by have := HQ.out.2 h; simp at this, fun i h => HO.out i h (by omega)⟩
        clear hp
        go_wp2_with fail
        go_ret
        exact ⟨rfl, bpush (Below.refl _ _) _⟩
end Go.Proofs.YtmmeekmiildliaaGreatDoor
namespace Go.Proofs.YtmmeekmiildliaaGreatDoor
open Go.RowKit
set_option linter.unusedSimpArgs false
set_option linter.unusedVariables false
set_option maxRecDepth 100000 in
set_option maxHeartbeats 1000000 in
theorem contains_any (A : Option Addr) (n c : Nat) (L : List ByteArray) (s : ByteArray) (w : World) (hA : Row w A (texts L)) (hz : n = L.length) (hn : n ≤ 9223372036854775807) (r : Bool) (hr : r = true ↔ s ∈ L) :
    Calls Tryz.prog 117 #[.slice A n c, .string s] w fun e w' => e = .returned (.bool r) ∧ w = w' := by
  have HA := Lib.hid hA
  have HZ := Lib.hid hz
  have HR := Lib.hid hr
  clear hA hz hr
  go_enter Tryz.func117, Tryz.ntmps117
  go_wp2_with fail
  refine (index_any A n c L s _ HA.out HZ.out hn).mono ?_
  rintro e w1 ⟨⟨o, ho, rfl⟩, rfl⟩
  have hm := ho.mem
  cases o with
  | none =>
    obtain rfl : r = false := by
      cases r with
      | false => rfl
      | true => exact absurd (hm.2 (HR.out.1 rfl)) (by simp)
    have e1 : idxO none = -1 := rfl
    rw [e1]
    clear hm ho
    go_wp2_with fail
    go_ret
    exact ⟨rfl, rfl⟩
  | some i =>
    obtain rfl : r = true := HR.out.2 (hm.1 rfl)
    have e1 : idxO (some i) = (i : Int) := rfl
    rw [e1]
    have h0 : (0 : Int) ≤ (i : Int) := by omega
    clear hm ho
    go_wp2_with fail
    go_ret
    exact ⟨by first | rfl | simp, rfl⟩
set_option maxRecDepth 100000 in
set_option maxHeartbeats 4000000 in
theorem apart_any (A : Option Addr) (n c : Nat) (L : List ByteArray) (w : World) (hA : Row w A (texts L)) (hz : n = L.length) (hnc : n ≤ c) (hn : n ≤ 9223372036854775807) (r : Bool) (hr : r = true ↔ apartP L) :
    Calls Tryz.prog 96 #[.slice A n c] w fun e w' => e = .returned (.bool r) ∧ w = w' := by
  have HA := Lib.hid hA
  have HZ := Lib.hid hz
  have HR := Lib.hid hr
  clear hA hz hr
  go_enter Tryz.func96, Tryz.ntmps96
  go_wp2_with fail
  go_loopw [7] (fun i wr => ∃ k : Nat, k ≤ n ∧ i = .int .i64 k ∧ Hid (∀ (i j : Nat) (hij : i < j) (h : j < L.length), j < k → L[i]'(Nat.lt_trans hij h) ≠ L[j]) ∧ wr = w) (fun i _ => n - (intOf i).toNat)
  case atStart => exact ⟨0, Nat.zero_le _, rfl, Lib.hid (fun i j _ _ h => by omega), rfl⟩
  case round =>
    obtain ⟨k, hk, rfl, HK, rfl⟩ := hrel
    by_cases hlt : k < n
    · have hkz : k < L.length := by have := HZ.out; omega
      have hki : (k : Int) < (n : Int) := by omega
      have hk0 : (0 : Int) ≤ (k : Int) := by omega
      have hkc : (k : Int) ≤ (c : Int) := by omega
      obtain ⟨b, off, rfl, c0⟩ := text_cell HA.out hkz
      obtain ⟨s, hs⟩ : ∃ s, s = L[k] := ⟨_, rfl⟩
      rw [← hs] at c0
      obtain ⟨q, hq⟩ : ∃ q : Bool, q = true ↔ s ∈ L.take k := by
        by_cases h : s ∈ L.take k
        · exact ⟨true, by simp [h]⟩
        · exact ⟨false, by simp [h]⟩
      have HQ := Lib.hid hq
      have HS := Lib.hid hs
      clear hq hs
      go_wp2_with fail
      refine (contains_any (some ⟨b, off, none⟩) k c (L.take k) s _ (HA.out.front k) (by rw [List.length_take]; omega) (by omega) q HQ.out).mono ?_
      rintro e w1 ⟨rfl, rfl⟩
      cases q with
      | true =>
        obtain rfl : r = false := by
          cases r with
          | false => rfl
          | true =>
            obtain ⟨j, hj, e⟩ := List.mem_iff_getElem.1 (HQ.out.1 rfl)
            rw [List.length_take] at hj
            rw [List.getElem_take, HS.out] at e
            exact absurd e (HR.out.1 rfl j k (by omega) hkz)
        clear hlt
        go_wp2_with fail
        go_ret
        exact ⟨rfl, rfl⟩
      | false =>
        have HK2 := Lib.hid (show ∀ (i j : Nat) (hij : i < j) (h : j < L.length), j < k + 1 → L[i]'(Nat.lt_trans hij h) ≠ L[j] from fun i j hij h hj e => by
          rcases Nat.lt_or_ge j k with h1 | h1
          · exact HK.out i j hij h h1 e
          · obtain rfl : j = k := by omega
            have hm : s ∈ L.take j := by
              rw [HS.out, ← e]
              exact List.mem_iff_getElem.2 ⟨i, by rw [List.length_take]; omega, by rw [List.getElem_take]⟩
            have := HQ.out.2 hm; cases this)
        clear hlt
        go_wp2_with fail
        go_roundw
        case rel => exact ⟨k + 1, by omega, by go_num, HK2, by first | rfl | trivial⟩
        case measure => simp [intOf]; omega
    · have hge : ¬ (k : Int) < (n : Int) := by omega
      obtain rfl : r = true := HR.out.2 (fun i j hij h => HK.out i j hij h (by have := HZ.out; omega))
      clear hlt
      go_wp2_with fail
      go_ret
      exact ⟨rfl, rfl⟩
end Go.Proofs.YtmmeekmiildliaaGreatDoor
namespace Go.Proofs.YtmmeekmiildliaaGreatDoor
open Go.RowKit
set_option linter.unusedSimpArgs false
set_option linter.unusedVariables false
set_option maxRecDepth 100000 in
set_option maxHeartbeats 1000000 in
theorem noname_any (s : ByteArray) (w : World) (hs : s.size ≤ 9223372036854775807) (r : Bool) (hr : r = true ↔ ¬ nameP s) :
    Calls Tryz.prog 94 #[.string s] w fun e w' => e = .returned (.bool r) ∧ Below w.heap.size w w' := by
  have HR := Lib.hid (show (!r) = true ↔ nameP s by cases r <;> simp_all)
  clear hr
  go_enter Tryz.func94, Tryz.ntmps94
  go_wp2_with fail
  refine (name_any s _ hs (!r) HR.out).mono ?_
  rintro e w1 ⟨rfl, hB⟩
  go_wp2_with fail
  go_ret
  exact ⟨by cases r <;> rfl, hB⟩
set_option maxRecDepth 100000 in
set_option maxHeartbeats 4000000 in
theorem anyno_any (A : Option Addr) (n c : Nat) (L : List ByteArray) (w : World) (hA : Row w A (texts L)) (hz : n = L.length) (hn : n ≤ 9223372036854775807) (hL : ∀ s ∈ L, s.size ≤ 9223372036854775807) (r : Bool) (hr : r = true ↔ ∃ s ∈ L, ¬ nameP s) :
    Calls Tryz.prog 92 #[.slice A n c, .func (.func 94) #[] #[]] w fun e w' => (∃ v : Int, e = .returned (.int .i64 v) ∧ (r = true → 0 ≤ v) ∧ (r = false → v = -1)) ∧ Below w.heap.size w w' := by
  have HA := Lib.hid hA
  have HZ := Lib.hid hz
  have HR := Lib.hid hr
  have HL := Lib.hid hL
  clear hA hz hr hL
  go_enter Tryz.func92, Tryz.ntmps92
  go_wp2_with fail
  go_loopw [8] (fun i wr => ∃ k : Nat, k ≤ n ∧ i = .int .i64 k ∧ Hid (∀ (j : Nat) (h : j < L.length), j < k → nameP L[j]) ∧ Hid (Below w.heap.size w wr)) (fun i _ => n - (intOf i).toNat)
  case atStart => exact ⟨0, Nat.zero_le _, rfl, Lib.hid (fun j _ h => by omega), Lib.hid (Below.refl _ _)⟩
  case round =>
    obtain ⟨k, hk, rfl, HK, HB⟩ := hrel
    by_cases hlt : k < n
    · have hkz : k < L.length := by have := HZ.out; omega
      have hki : (k : Int) < (n : Int) := by omega
      have hk0 : (0 : Int) ≤ (k : Int) := by omega
      obtain ⟨b, off, hAe, c0⟩ := text_cell (HA.out.keep (Nat.le_refl _) HB.out) hkz
      obtain ⟨s, hs⟩ : ∃ s, s = L[k] := ⟨_, rfl⟩
      rw [← hs] at c0
      have HS := Lib.hid hs
      obtain ⟨q, hq⟩ : ∃ q : Bool, q = true ↔ ¬ nameP s := by
        by_cases h : nameP s
        · exact ⟨false, by simp [h]⟩
        · exact ⟨true, by simp [h]⟩
      have HQ := Lib.hid hq
      clear hq hs
      subst hAe
      go_wp2_with fail
      refine (noname_any s _ (by rw [HS.out]; exact HL.out _ (List.getElem_mem _)) q HQ.out).mono ?_
      rintro e w1 ⟨rfl, hB1⟩
      have HB1 := Lib.hid (bthen HB.out hB1)
      clear hB1 c0
      cases q with
      | true =>
        have HT := Lib.hid (show r = true from HR.out.2 ⟨s, by rw [HS.out]; exact List.getElem_mem _, HQ.out.1 rfl⟩)
        clear hlt
        go_wp2_with fail
        go_ret
        exact ⟨⟨k, rfl, fun _ => (by omega), fun h => (by rw [HT.out] at h; cases h)⟩, HB1.out⟩
      | false =>
        have hnm : nameP s := by
          by_cases h : nameP s
          · exact h
          · have := HQ.out.2 h; cases this
        have HK2 := Lib.hid (show ∀ (j : Nat) (h : j < L.length), j < k + 1 → nameP L[j] from fun j h hj => by
          rcases Nat.lt_or_ge j k with e | e
          · exact HK.out j h e
          · obtain rfl : j = k := by omega
            rw [← HS.out]; exact hnm)
        clear hlt hnm
        go_wp2_with fail
        go_roundw
        case rel => exact ⟨k + 1, by omega, by go_num, HK2, HB1⟩
        case measure => simp [intOf]; omega
    · have hge : ¬ (k : Int) < (n : Int) := by omega
      have HT := Lib.hid (show r = false by
        cases r with
        | false => rfl
        | true =>
          obtain ⟨s, hs, hn⟩ := HR.out.1 rfl
          obtain ⟨j, hj, rfl⟩ := List.mem_iff_getElem.1 hs
          exact absurd (HK.out j hj (by have := HZ.out; omega)) hn)
      clear hlt
      go_wp2_with fail
      go_ret
      exact ⟨⟨-1, rfl, fun h => (by rw [HT.out] at h; cases h), fun _ => rfl⟩, HB.out⟩
end Go.Proofs.YtmmeekmiildliaaGreatDoor
namespace Go.Proofs.YtmmeekmiildliaaGreatDoor
open Go.RowKit
set_option linter.unusedSimpArgs false
set_option linter.unusedVariables false
set_option maxRecDepth 100000 in
set_option maxHeartbeats 2000000 in
theorem names_any (A : Option Addr) (n c : Nat) (L : List ByteArray) (w : World) (hA : Row w A (texts L)) (hz : n = L.length) (hnc : n ≤ c) (hn : n ≤ 9223372036854775807) (hL : ∀ s ∈ L, s.size ≤ 9223372036854775807) (r : Bool) (hr : r = true ↔ namesP L) :
    Calls Tryz.prog 63 #[.slice A n c] w fun e w' => e = .returned (.bool r) ∧ Below w.heap.size w w' := by
  have HA := Lib.hid hA
  have HZ := Lib.hid hz
  have HR := Lib.hid hr
  have HL := Lib.hid hL
  clear hA hz hr hL
  obtain ⟨q, hq⟩ : ∃ q : Bool, q = true ↔ ∃ s ∈ L, ¬ nameP s := by
    by_cases h : ∃ s ∈ L, ¬ nameP s
    · exact ⟨true, fun _ => h, fun _ => rfl⟩
    · exact ⟨false, fun e => (by cases e), fun e => absurd e h⟩
  have HQ := Lib.hid hq
  clear hq
  go_enter Tryz.func63, Tryz.ntmps63
  go_wp2_with fail
  go_enter Tryz.func60, Tryz.ntmps60
  go_wp2_with fail
  refine (anyno_any A n c L _ HA.out HZ.out hn HL.out q HQ.out).mono ?_
  rintro e w1 ⟨⟨v, rfl, hv1, hv2⟩, hB⟩
  cases q with
  | true =>
    have h0 := hv1 rfl
    have d0 : decide (0 ≤ v) = true := by simpa using h0
    obtain rfl : r = false := by
      cases r with
      | false => rfl
      | true =>
        obtain ⟨s, hs, h⟩ := HQ.out.1 rfl
        exact absurd ((HR.out.1 rfl).1 s hs) h
    clear hv1 hv2
    go_wp2_with fail
    go_ret
    exact ⟨rfl, hB⟩
  | false =>
    obtain rfl : v = -1 := hv2 rfl
    have HN := Lib.hid (show ∀ s ∈ L, nameP s from fun s hs => by
      by_cases h : nameP s
      · exact h
      · have := HQ.out.2 ⟨s, hs, h⟩; cases this)
    have HP := Lib.hid (show r = true ↔ apartP L from ⟨fun h => (HR.out.1 h).2, fun h => HR.out.2 ⟨HN.out, h⟩⟩)
    have HA1 := Lib.hid (HA.out.keep (Nat.le_refl _) hB)
    have HB := Lib.hid hB
    clear hv1 hv2 hB
    go_wp2_with fail
    refine (apart_any A n c L _ HA1.out HZ.out hnc hn r HP.out).mono ?_
    rintro e w2 ⟨rfl, rfl⟩
    go_wp2_with fail
    go_ret
    exact ⟨rfl, HB.out⟩
end Go.Proofs.YtmmeekmiildliaaGreatDoor
namespace Go.Proofs.YtmmeekmiildliaaGreatDoor
open Go.RowKit
set_option linter.unusedSimpArgs false
set_option linter.unusedVariables false
end Go.Proofs.YtmmeekmiildliaaGreatDoor
