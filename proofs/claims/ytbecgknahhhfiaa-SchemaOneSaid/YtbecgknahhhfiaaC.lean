/- Where a text stands in a list. -/
import Derived.Test.YtbecgknahhhfiaaB
namespace Go.Proofs.Ytbecgknahhhfiaa
open Go.RowKit
set_option linter.unusedSimpArgs false
set_option linter.unusedVariables false
theorem str_ne {a b : ByteArray} (h : a ≠ b) : (a.toList == b.toList) = false := by
  rw [ByteArray.toList_eq, ByteArray.toList_eq, beq_eq_false_iff_ne]
  exact fun e => h (by cases a; cases b; congr 1; exact Array.toList_inj.1 e)
/-- A text's first place in a list. -/
def FirstAt (L : List ByteArray) (s : ByteArray) : Option Nat → Prop
  | none => ∀ (j : Nat) (h : j < L.length), L[j] ≠ s
  | some i => ∃ h : i < L.length, L[i] = s ∧ ∀ (j : Nat) (hj : j < i), L[j] ≠ s
def idxO : Option Nat → Int
  | none => -1
  | some i => i
theorem FirstAt.uniq {L : List ByteArray} {s : ByteArray} {o p : Option Nat} (h : FirstAt L s o) (k : FirstAt L s p) : o = p := by
  cases o with
  | none => cases p with
    | none => rfl
    | some j => obtain ⟨hj, e, _⟩ := k; exact absurd e (h j hj)
  | some i => cases p with
    | none => obtain ⟨hi, e, _⟩ := h; exact absurd e (k i hi)
    | some j =>
      obtain ⟨hi, e1, n1⟩ := h
      obtain ⟨hj, e2, n2⟩ := k
      rcases Nat.lt_trichotomy i j with h3 | rfl | h3
      · exact absurd e1 (n2 i h3)
      · rfl
      · exact absurd e2 (n1 j h3)
set_option maxRecDepth 100000 in
set_option maxHeartbeats 4000000 in
theorem index_any (A : Option Addr) (n c : Nat) (L : List ByteArray) (s : ByteArray) (w : World) (hA : Row w A (texts L)) (hz : n = L.length) (hn : n ≤ 9223372036854775807) :
    Calls Try.prog 26 #[.slice A n c, .string s] w fun e w' => (∃ o, FirstAt L s o ∧ e = .returned (.int .i64 (idxO o))) ∧ w = w' := by
  have HA := Lib.hid hA
  have HZ := Lib.hid hz
  clear hA hz
  go_enter Try.func26, Try.ntmps26
  go_wp2_with fail
  go_loopw [8] (fun i wr => ∃ k : Nat, k ≤ n ∧ i = .int .i64 k ∧ Hid (∀ (j : Nat) (h : j < L.length), j < k → L[j] ≠ s) ∧ wr = w) (fun i _ => n - (intOf i).toNat)
  case atStart => exact ⟨0, Nat.zero_le _, rfl, Lib.hid (fun j _ h => by omega), rfl⟩
  case round =>
    obtain ⟨k, hk, rfl, HK, rfl⟩ := hrel
    by_cases hlt : k < n
    · have hkz : k < L.length := by have := HZ.out; omega
      have hki : (k : Int) < (n : Int) := by omega
      have hk0 : (0 : Int) ≤ (k : Int) := by omega
      obtain ⟨b, off, rfl, c0⟩ := text_cell HA.out hkz
      obtain ⟨q, hq⟩ : ∃ q, q = L[k] := ⟨_, rfl⟩
      rw [← hq] at c0
      have HQ := Lib.hid hq
      clear hq
      by_cases hEq : s = q
      · subst hEq
        have HF := Lib.hid (show FirstAt L s (some k) from ⟨hkz, HQ.out.symm, fun j hj => HK.out j (by omega) hj⟩)
        clear hlt
        go_wp2_with fail
        go_ret
        exact ⟨⟨some k, HF.out, rfl⟩, rfl⟩
      · have hs1 := str_ne hEq
        have HK2 := Lib.hid (show ∀ (j : Nat) (h : j < L.length), j < k + 1 → L[j] ≠ s from fun j h hj => by
          rcases Nat.lt_or_ge j k with e | e
          · exact HK.out j h e
          · obtain rfl : j = k := by omega
            rw [← HQ.out]; exact fun e => hEq e.symm)
        clear hlt hEq
        go_wp2_with fail
        go_roundw
        case rel => exact ⟨k + 1, by omega, by go_num, HK2, by first | rfl | trivial⟩
        case measure => simp [intOf]; omega
    · have hge : ¬ (k : Int) < (n : Int) := by omega
      have HF := Lib.hid (show FirstAt L s none from fun j hj => HK.out j hj (by have := HZ.out; omega))
      clear hlt
      go_wp2_with fail
      go_ret
      exact ⟨⟨none, HF.out, rfl⟩, rfl⟩
set_option maxRecDepth 100000 in
set_option maxHeartbeats 4000000 in
theorem find_any (A : Option Addr) (n c : Nat) (L : List ByteArray) (s : ByteArray) (w : World) (hA : Row w A (texts L)) (hz : n = L.length) (hn : n ≤ 9223372036854775807) :
    Calls Try.prog 27 #[.slice A n c, .string s] w fun e w' => (∃ o, FirstAt L s o ∧ e = .returned (.tuple #[.int .i64 ((o.getD 0 : Nat) : Int), .bool o.isSome])) ∧ w = w' := by
  have HA := Lib.hid hA
  have HZ := Lib.hid hz
  clear hA hz
  go_enter Try.func27, Try.ntmps27
  go_wp2_with fail
  go_loopw [6] (fun i wr => ∃ k : Nat, k ≤ n ∧ i = .int .i64 k ∧ Hid (∀ (j : Nat) (h : j < L.length), j < k → L[j] ≠ s) ∧ wr = w) (fun i _ => n - (intOf i).toNat)
  case atStart => exact ⟨0, Nat.zero_le _, rfl, Lib.hid (fun j _ h => by omega), rfl⟩
  case round =>
    obtain ⟨k, hk, rfl, HK, rfl⟩ := hrel
    by_cases hlt : k < n
    · have hkz : k < L.length := by have := HZ.out; omega
      have hki : (k : Int) < (n : Int) := by omega
      have hk0 : (0 : Int) ≤ (k : Int) := by omega
      obtain ⟨b, off, rfl, c0⟩ := text_cell HA.out hkz
      obtain ⟨q, hq⟩ : ∃ q, q = L[k] := ⟨_, rfl⟩
      rw [← hq] at c0
      have HQ := Lib.hid hq
      clear hq
      by_cases hEq : s = q
      · subst hEq
        have HF := Lib.hid (show FirstAt L s (some k) from ⟨hkz, HQ.out.symm, fun j hj => HK.out j (by omega) hj⟩)
        clear hlt
        go_wp2_with fail
        go_ret2
        exact ⟨⟨some k, HF.out, rfl⟩, rfl⟩
      · have hs1 := str_ne (fun e => hEq e.symm)
        have HK2 := Lib.hid (show ∀ (j : Nat) (h : j < L.length), j < k + 1 → L[j] ≠ s from fun j h hj => by
          rcases Nat.lt_or_ge j k with e | e
          · exact HK.out j h e
          · obtain rfl : j = k := by omega
            rw [← HQ.out]; exact fun e => hEq e.symm)
        clear hlt hEq
        go_wp2_with fail
        go_roundw
        case rel => exact ⟨k + 1, by omega, by go_num, HK2, by first | rfl | trivial⟩
        case measure => simp [intOf]; omega
    · have hge : ¬ (k : Int) < (n : Int) := by omega
      have HF := Lib.hid (show FirstAt L s none from fun j hj => HK.out j hj (by have := HZ.out; omega))
      clear hlt
      go_wp2_with fail
      go_ret2
      exact ⟨⟨none, HF.out, rfl⟩, rfl⟩
set_option maxRecDepth 100000 in
set_option maxHeartbeats 1000000 in
theorem place_any (A : Option Addr) (n c : Nat) (L : List ByteArray) (s : ByteArray) (w : World) (hA : Row w A (texts L)) (hz : n = L.length) (hn : n ≤ 9223372036854775807) :
    Calls Try.prog 32 #[.slice A n c, .string s] w fun e w' => (∃ o, FirstAt L s o ∧ e = .returned (.tuple #[.int .i64 ((o.getD 0 : Nat) : Int), .bool o.isSome])) ∧ w = w' := by
  have HA := Lib.hid hA
  have HZ := Lib.hid hz
  clear hA hz
  go_enter Try.func32, Try.ntmps32
  go_wp2_with fail
  refine (index_any A n c L s _ HA.out HZ.out hn).mono ?_
  rintro e w1 ⟨⟨o, ho, rfl⟩, rfl⟩
  have HO := Lib.hid ho
  clear ho
  cases o with
  | none =>
    have e1 : idxO none = -1 := rfl
    rw [e1]
    go_wp2_with fail
    go_ret2
    exact ⟨⟨none, HO.out, rfl⟩, rfl⟩
  | some i =>
    have e1 : idxO (some i) = (i : Int) := rfl
    rw [e1]
    have h0 : (0 : Int) ≤ (i : Int) := by omega
    have h1 : decide ((0 : Int) ≤ (i : Int)) = true := by simp
    go_wp2_with fail
    go_ret2
    refine ⟨⟨some i, HO.out, ?_⟩, rfl⟩
    first | rfl | simp | (simp; omega)
end Go.Proofs.Ytbecgknahhhfiaa
