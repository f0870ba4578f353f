/- How many; all below; two lists that are one. -/
import Derived.Test.YtohdkidfhohmlaaF
namespace Go.Proofs.Ytohdkidfhohmlaa
open Go.RowKit
set_option linter.unusedSimpArgs false
set_option linter.unusedVariables false
set_option maxRecDepth 100000 in
set_option maxHeartbeats 1000000 in
theorem count_any (A : Option Addr) (n c : Nat) (L : List (Int × Int)) (w : World) (hA : Row w A (cellsP L)) (hz : n = L.length) (hn : n ≤ 1000000) (hr : rightB (-1) L = true) :
    Calls Try.prog 23 #[.slice A n c] w fun e w' => e = .returned (.int .i64 (rankZ 65536 L)) ∧ Below w.heap.size w w' := by
  have HZ := Lib.hid hz
  have HRT := Lib.hid hr
  clear hz hr
  go_enter Try.func23, Try.ntmps23
  go_wp2_with fail
  refine (rank_any A n c 65536 L _ hA HZ.out hn HRT.out).mono ?_
  rintro e w1 ⟨rfl, hB⟩
  have HB := Lib.hid hB
  clear hB
  go_wp2_with fail
  go_ret
  exact ⟨rfl, HB.out⟩
/-- All numbers below n, as far as they may be. -/
def uptoL (n : Int) : List (Int × Int) := if n ≤ 0 then [] else [(0, if n ≤ 65536 then n else 65536)]
theorem upto_right (n : Int) : rightB (-1) (uptoL n) = true := by
  unfold uptoL
  by_cases h : n ≤ 0
  · rw [if_pos h]; rfl
  · rw [if_neg h, right_ok (by show ¬ ((0 : Int) ≤ -1 ∨ (if n ≤ 65536 then n else 65536) ≤ 0 ∨ 65536 < (if n ≤ 65536 then n else 65536)); split <;> omega)]; rfl
/-- A new set is answered. -/
def SetPost (w : World) (L : List (Int × Int)) (e : Ending) (w' : World) : Prop := ∃ A c, e = .returned (.slice A L.length c) ∧ Row w' A (cellsP L) ∧ Below w.heap.size w w'
set_option maxRecDepth 100000 in
set_option maxHeartbeats 1000000 in
theorem upto_any (x : Int) (w : World) : Calls Try.prog 34 #[.int .i64 x] w (SetPost w (uptoL x)) := by
  by_cases h0 : x ≤ 0
  · have hm : ¬ 65536 < x := by omega
    have HU := Lib.hid (show uptoL x = [] by rw [uptoL, if_pos h0])
    rw [HU.out]
    go_enter Try.func34, Try.ntmps34
    go_wp2_with fail
    go_ret
    exact ⟨none, 0, rfl, .inl rfl, Below.refl _ _⟩
  · by_cases h1 : x ≤ 65536
    · have hm : ¬ 65536 < x := by omega
      have HU := Lib.hid (show uptoL x = [(0, x)] by rw [uptoL, if_neg h0, if_pos h1])
      rw [HU.out]
      go_enter Try.func34, Try.ntmps34
      go_wp2_with fail
      go_ret
      exact ⟨some ⟨w.heap.size, 0, none⟩, 1, rfl, Row.made rfl rfl, bpush (Below.refl _ _) _⟩
    · have hm : 65536 < x := by omega
      have HU := Lib.hid (show uptoL x = [(0, 65536)] by rw [uptoL, if_neg h0, if_neg h1])
      rw [HU.out]
      go_enter Try.func34, Try.ntmps34
      go_wp2_with fail
      go_ret
      exact ⟨some ⟨w.heap.size, 0, none⟩, 1, rfl, Row.made rfl rfl, bpush (Below.refl _ _) _⟩
set_option maxRecDepth 100000 in
set_option maxHeartbeats 1000000 in
theorem same_yes (A A' : Option Addr) (n c n' c' : Nat) (L : List (Int × Int)) (w : World) (hA : Row w A (cellsP L)) (hA' : Row w A' (cellsP L)) (hz : n' = n) (hl : n = L.length) (hn : n ≤ 9223372036854775807) :
    Calls Try.prog 13 #[.slice A n c, .slice A' n' c'] w fun e w' => e = .returned (.bool true) ∧ Below w.heap.size w w' := by
  subst hz
  have HL := Lib.hid hl
  clear hl
  go_enter Try.func13, Try.ntmps13
  go_wp2_with fail
  go_loopw [5] (fun i wr => ∃ k : Nat, k ≤ n' ∧ i = .int .i64 k ∧ Hid (Below w.heap.size w wr)) (fun i _ => n' - (intOf i).toNat)
  case atStart => exact ⟨0, Nat.zero_le _, rfl, Lib.hid (Below.refl _ _)⟩
  case round =>
    obtain ⟨k, hk, rfl, HB⟩ := hrel
    by_cases hlt : k < n'
    · have hkz : k < L.length := by have := HL.out; omega
      obtain ⟨b, off, hA1, hc1, hc2⟩ := (hA.keep (Nat.le_refl _) HB.out).at2 hkz
      obtain ⟨b', off', hA2, hc3, hc4⟩ := (hA'.keep (Nat.le_refl _) HB.out).at2 hkz
      obtain ⟨x, hx⟩ : ∃ x, x = L[k].1 := ⟨_, rfl⟩
      obtain ⟨y, hy⟩ : ∃ y, y = L[k].2 := ⟨_, rfl⟩
      rw [← hx] at hc1 hc3
      rw [← hy] at hc2 hc4
      have hk1 : (k : Int) < (n' : Int) := by omega
      have hk0 : (0 : Int) ≤ (k : Int) := by omega
      clear hx hy hA hA'
      subst hA1 hA2
      go_wp2_with fail
      go_quiet (fail)
      go_wp2_with fail
      go_roundw
      case rel => exact ⟨k + 1, by omega, by go_num, Lib.hid (below_drewN HB.out _)⟩
      case measure => simp [intOf]; omega
    · have hk1 : ¬ (k : Int) < (n' : Int) := by omega
      go_wp2_with fail
      go_ret
      exact ⟨rfl, HB.out⟩
end Go.Proofs.Ytohdkidfhohmlaa
