/- Find, Name, names, Subset (ported). -/
import Derived.Test.YtgaallkdfcckpaaMA
import Derived.Laws.RangeString
import Derived.Laws.RangeAny
import Derived.WalkKit
import Derived.ProofKit
import Derived.OpenShut
import Derived.Below
import Derived.Lib.Hide
import Derived.WalkLawsBesides
import Derived.Laws.OwnMore
namespace Go.Proofs.Ytgaallkdfcckpaa
open Go.RowKit
set_option linter.unusedSimpArgs false
set_option linter.unusedVariables false
set_option maxRecDepth 100000 in
set_option maxHeartbeats 4000000 in
theorem index_any (A : Option Addr) (n c : Nat) (L : List ByteArray) (s : ByteArray) (w : World) (hA : Row w A (texts L)) (hz : n = L.length) (hn : n ≤ 9223372036854775807) :
    Calls Try.prog 51 #[.slice A n c, .string s] w fun e w' => (∃ o, FirstAt L s o ∧ e = .returned (.int .i64 (idxO o))) ∧ w = w' := by
  have HA := Lib.hid hA
  have HZ := Lib.hid hz
  clear hA hz
  go_enter Try.func51, Try.ntmps51
  go_wp2_with fail
  go_loopw [8] (fun i wr => ∃ k : Nat, k ≤ n ∧ i = .int .i64 k ∧ Hid (∀ (j : Nat) (h : j < L.length), j < k → L[j] ≠ s) ∧ wr = w) (fun i _ => n - (intOf i).toNat)
  case atStart => exact ⟨0, Nat.zero_le _, rfl, Lib.hid (fun j _ h => by omega), rfl⟩
  case round =>
    obtain ⟨k, hk, rfl, HK, rfl⟩ := hrel
    by_cases hlt : k < n
    · have hkz : k < L.length := by have := HZ.out; omega
      have hki : (k : Int) < (n : Int) := by omega
      have hk0 : (0 : Int) ≤ (k : Int) := by omega
      obtain ⟨b, off, rfl, c0⟩ := text_cell HA.out hkz
      obtain ⟨q, hq⟩ : ∃ q, q = L[k] := ⟨_, rfl⟩
      rw [← hq] at c0
      have HQ := Lib.hid hq
      clear hq
      by_cases hEq : s = q
      · subst hEq
        have HF := Lib.hid (show FirstAt L s (some k) from ⟨hkz, HQ.out.symm, fun j hj => HK.out j (by omega) hj⟩)
        clear hlt
        go_wp2_with fail
        go_ret
        exact ⟨⟨some k, HF.out, rfl⟩, rfl⟩
      · have hs1 := str_ne hEq
        have HK2 := Lib.hid (show ∀ (j : Nat) (h : j < L.length), j < k + 1 → L[j] ≠ s from fun j h hj => by
          rcases Nat.lt_or_ge j k with e | e
          · exact HK.out j h e
          · obtain rfl : j = k := by omega
            rw [← HQ.out]; exact fun e => hEq e.symm)
        clear hlt hEq
        go_wp2_with fail
        go_roundw
        case rel => exact ⟨k + 1, by omega, by go_num, HK2, by first | rfl | trivial⟩
        case measure => simp [intOf]; omega
    · have hge : ¬ (k : Int) < (n : Int) := by omega
      have HF := Lib.hid (show FirstAt L s none from fun j hj => HK.out j hj (by have := HZ.out; omega))
      clear hlt
      go_wp2_with fail
      go_ret
      exact ⟨⟨none, HF.out, rfl⟩, rfl⟩
set_option maxRecDepth 100000 in
set_option maxHeartbeats 4000000 in
theorem find_any (A : Option Addr) (n c : Nat) (L : List ByteArray) (s : ByteArray) (w : World) (hA : Row w A (texts L)) (hz : n = L.length) (hn : n ≤ 9223372036854775807) :
    Calls Try.prog 30 #[.slice A n c, .string s] w fun e w' => (∃ o, FirstAt L s o ∧ e = .returned (.tuple #[.int .i64 ((o.getD 0 : Nat) : Int), .bool o.isSome])) ∧ w = w' := by
  have HA := Lib.hid hA
  have HZ := Lib.hid hz
  clear hA hz
  go_enter Try.func30, Try.ntmps30
  go_wp2_with fail
  go_loopw [6] (fun i wr => ∃ k : Nat, k ≤ n ∧ i = .int .i64 k ∧ Hid (∀ (j : Nat) (h : j < L.length), j < k → L[j] ≠ s) ∧ wr = w) (fun i _ => n - (intOf i).toNat)
  case atStart => exact ⟨0, Nat.zero_le _, rfl, Lib.hid (fun j _ h => by omega), rfl⟩
  case round =>
    obtain ⟨k, hk, rfl, HK, rfl⟩ := hrel
    by_cases hlt : k < n
    · have hkz : k < L.length := by have := HZ.out; omega
      have hki : (k : Int) < (n : Int) := by omega
      have hk0 : (0 : Int) ≤ (k : Int) := by omega
      obtain ⟨b, off, rfl, c0⟩ := text_cell HA.out hkz
      obtain ⟨q, hq⟩ : ∃ q, q = L[k] := ⟨_, rfl⟩
      rw [← hq] at c0
      have HQ := Lib.hid hq
      clear hq
      by_cases hEq : s = q
      · subst hEq
        have HF := Lib.hid (show FirstAt L s (some k) from ⟨hkz, HQ.out.symm, fun j hj => HK.out j (by omega) hj⟩)
        clear hlt
        go_wp2_with fail
        go_ret2
        exact ⟨⟨some k, HF.out, rfl⟩, rfl⟩
      · have hs1 := str_ne (fun e => hEq e.symm)
        have HK2 := Lib.hid (show ∀ (j : Nat) (h : j < L.length), j < k + 1 → L[j] ≠ s from fun j h hj => by
          rcases Nat.lt_or_ge j k with e | e
          · exact HK.out j h e
          · obtain rfl : j = k := by omega
            rw [← HQ.out]; exact fun e => hEq e.symm)
        clear hlt hEq
        go_wp2_with fail
        go_roundw
        case rel => exact ⟨k + 1, by omega, by go_num, HK2, by first | rfl | trivial⟩
        case measure => simp [intOf]; omega
    · have hge : ¬ (k : Int) < (n : Int) := by omega
      have HF := Lib.hid (show FirstAt L s none from fun j hj => HK.out j hj (by have := HZ.out; omega))
      clear hlt
      go_wp2_with fail
      go_ret2
      exact ⟨⟨none, HF.out, rfl⟩, rfl⟩
end Go.Proofs.Ytgaallkdfcckpaa
namespace Go.Proofs.Ytgaallkdfcckpaa
open Go.RowKit
set_option linter.unusedSimpArgs false
set_option linter.unusedVariables false
end Go.Proofs.Ytgaallkdfcckpaa
namespace Go.Proofs.Ytgaallkdfcckpaa
open Go.RowKit
set_option linter.unusedSimpArgs false
set_option linter.unusedVariables false
end Go.Proofs.Ytgaallkdfcckpaa
namespace Go.Proofs.Ytgaallkdfcckpaa
open Go.RowKit
set_option linter.unusedSimpArgs false
set_option linter.unusedVariables false
end Go.Proofs.Ytgaallkdfcckpaa
namespace Go.Proofs.Ytgaallkdfcckpaa
open Go.RowKit
set_option linter.unusedSimpArgs false
set_option linter.unusedVariables false
set_option maxRecDepth 100000 in
set_option maxHeartbeats 1000000 in
theorem contains_any (A : Option Addr) (n c : Nat) (L : List ByteArray) (s : ByteArray) (w : World) (hA : Row w A (texts L)) (hz : n = L.length) (hn : n ≤ 9223372036854775807) (r : Bool) (hr : r = true ↔ s ∈ L) :
    Calls Try.prog 23 #[.slice A n c, .string s] w fun e w' => e = .returned (.bool r) ∧ w = w' := by
  have HA := Lib.hid hA
  have HZ := Lib.hid hz
  have HR := Lib.hid hr
  clear hA hz hr
  go_enter Try.func23, Try.ntmps23
  go_wp2_with fail
  refine (index_any A n c L s _ HA.out HZ.out hn).mono ?_
  rintro e w1 ⟨⟨o, ho, rfl⟩, rfl⟩
  have hm := ho.mem
  cases o with
  | none =>
    obtain rfl : r = false := by
      cases r with
      | false => rfl
      | true => exact absurd (hm.2 (HR.out.1 rfl)) (by simp)
    have e1 : idxO none = -1 := rfl
    rw [e1]
    clear hm ho
    go_wp2_with fail
    go_ret
    exact ⟨rfl, rfl⟩
  | some i =>
    obtain rfl : r = true := HR.out.2 (hm.1 rfl)
    have e1 : idxO (some i) = (i : Int) := rfl
    rw [e1]
    have h0 : (0 : Int) ≤ (i : Int) := by omega
    clear hm ho
    go_wp2_with fail
    go_ret
    exact ⟨by first | rfl | simp, rfl⟩
end Go.Proofs.Ytgaallkdfcckpaa
namespace Go.Proofs.Ytgaallkdfcckpaa
open Go.RowKit
set_option linter.unusedSimpArgs false
set_option linter.unusedVariables false
end Go.Proofs.Ytgaallkdfcckpaa
namespace Go.Proofs.Ytgaallkdfcckpaa
open Go.RowKit
set_option linter.unusedSimpArgs false
set_option linter.unusedVariables false
end Go.Proofs.Ytgaallkdfcckpaa
namespace Go.Proofs.Ytgaallkdfcckpaa
open Go.RowKit
set_option linter.unusedSimpArgs false
set_option linter.unusedVariables false
end Go.Proofs.Ytgaallkdfcckpaa
