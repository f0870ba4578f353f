/- Whether any text is no value; whether any number is too great. -/
import Derived.Test.YtlfhjjlgmhkepaaL
namespace Go.Proofs.Ytlfhjjlgmhkepaa
open Go.RowKit
set_option linter.unusedSimpArgs false
set_option linter.unusedVariables false
def valP (s : ByteArray) : Prop := s.size ≤ 24 ∧ valueP s
set_option maxRecDepth 100000 in
set_option maxHeartbeats 1000000 in
theorem novalue_any (s : ByteArray) (w : World) (hs : s.size ≤ 9223372036854775807) (r : Bool) (hr : r = true ↔ ¬ valP s) :
    Calls Try.prog 59 #[.string s] w fun e w' => e = .returned (.bool r) ∧ Below w.heap.size w w' := by
  have HR := Lib.hid (show (!r) = true ↔ valP s by cases r <;> simp_all)
  clear hr
  go_enter Try.func59, Try.ntmps59
  go_wp2_with fail
  refine (value_any s _ hs (!r) HR.out).mono ?_
  rintro e w1 ⟨rfl, hB⟩
  go_wp2_with fail
  go_ret
  exact ⟨by cases r <;> rfl, hB⟩
set_option maxRecDepth 100000 in
set_option maxHeartbeats 4000000 in
theorem anyval_any (A : Option Addr) (n c : Nat) (L : List ByteArray) (w : World) (hA : Row w A (texts L)) (hz : n = L.length) (hn : n ≤ 9223372036854775807) (hL : ∀ s ∈ L, s.size ≤ 9223372036854775807) (r : Bool) (hr : r = true ↔ ∃ s ∈ L, ¬ valP s) :
    Calls Try.prog 66 #[.slice A n c, .func (.func 59) #[] #[]] w fun e w' => (∃ v : Int, e = .returned (.int .i64 v) ∧ (r = true → 0 ≤ v) ∧ (r = false → v = -1)) ∧ Below w.heap.size w w' := by
  have HA := Lib.hid hA
  have HZ := Lib.hid hz
  have HR := Lib.hid hr
  have HL := Lib.hid hL
  clear hA hz hr hL
  go_enter Try.func66, Try.ntmps66
  go_wp2_with fail
  go_loopw [8] (fun i wr => ∃ k : Nat, k ≤ n ∧ i = .int .i64 k ∧ Hid (∀ (j : Nat) (h : j < L.length), j < k → valP L[j]) ∧ Hid (Below w.heap.size w wr)) (fun i _ => n - (intOf i).toNat)
  case atStart => exact ⟨0, Nat.zero_le _, rfl, Lib.hid (fun j _ h => by omega), Lib.hid (Below.refl _ _)⟩
  case round =>
    obtain ⟨k, hk, rfl, HK, HB⟩ := hrel
    by_cases hlt : k < n
    · have hkz : k < L.length := by have := HZ.out; omega
      have hki : (k : Int) < (n : Int) := by omega
      have hk0 : (0 : Int) ≤ (k : Int) := by omega
      obtain ⟨b, off, hAe, c0⟩ := text_cell (HA.out.keep (Nat.le_refl _) HB.out) hkz
      obtain ⟨s, hs⟩ : ∃ s, s = L[k] := ⟨_, rfl⟩
      rw [← hs] at c0
      have HS := Lib.hid hs
      obtain ⟨q, hq⟩ : ∃ q : Bool, q = true ↔ ¬ valP s := by
        by_cases h : valP s
        · exact ⟨false, by simp [h]⟩
        · exact ⟨true, by simp [h]⟩
      have HQ := Lib.hid hq
      clear hq hs
      subst hAe
      go_wp2_with fail
      refine (novalue_any s _ (by rw [HS.out]; exact HL.out _ (List.getElem_mem _)) q HQ.out).mono ?_
      rintro e w1 ⟨rfl, hB1⟩
      have HB1 := Lib.hid (bthen HB.out hB1)
      clear hB1 c0
      cases q with
      | true =>
        have HT := Lib.hid (show r = true from HR.out.2 ⟨s, by rw [HS.out]; exact List.getElem_mem _, HQ.out.1 rfl⟩)
        clear hlt
        go_wp2_with fail
        go_ret
        exact ⟨⟨k, rfl, fun _ => (by omega), fun h => (by rw [HT.out] at h; cases h)⟩, HB1.out⟩
      | false =>
        have hnm : valP s := by
          by_cases h : valP s
          · exact h
          · have := HQ.out.2 h; cases this
        have HK2 := Lib.hid (show ∀ (j : Nat) (h : j < L.length), j < k + 1 → valP L[j] from fun j h hj => by
          rcases Nat.lt_or_ge j k with e | e
          · exact HK.out j h e
          · obtain rfl : j = k := by omega
            rw [← HS.out]; exact hnm)
        clear hlt hnm
        go_wp2_with fail
        go_roundw
        case rel => exact ⟨k + 1, by omega, by go_num, HK2, HB1⟩
        case measure => simp [intOf]; omega
    · have hge : ¬ (k : Int) < (n : Int) := by omega
      have HT := Lib.hid (show r = false by
        cases r with
        | false => rfl
        | true =>
          obtain ⟨s, hs, hn⟩ := HR.out.1 rfl
          obtain ⟨j, hj, rfl⟩ := List.mem_iff_getElem.1 hs
          exact absurd (HK.out j hj (by have := HZ.out; omega)) hn)
      clear hlt
      go_wp2_with fail
      go_ret
      exact ⟨⟨-1, rfl, fun h => (by rw [HT.out] at h; cases h), fun _ => rfl⟩, HB.out⟩
def greatZ (x : Int) : Prop := x < -4611686018427387904 ∨ 4611686018427387904 < x
set_option maxRecDepth 100000 in
set_option maxHeartbeats 1000000 in
theorem great_any (x : Int) (w : World) (r : Bool) (hr : r = true ↔ greatZ x) :
    Calls Try.prog 60 #[.int .i64 x] w fun e w' => e = .returned (.bool r) ∧ w = w' := by
  unfold greatZ at hr
  by_cases h1 : x < -4611686018427387904
  · obtain rfl : r = true := hr.2 (.inl h1)
    clear hr
    go_enter Try.func60, Try.ntmps60
    go_wp2_with fail
    go_ret
    exact ⟨rfl, rfl⟩
  have d1 : decide (x < -4611686018427387904) = false := by simp; omega
  by_cases h2 : 4611686018427387904 < x
  · obtain rfl : r = true := hr.2 (.inr h2)
    have d2 : decide (4611686018427387904 < x) = true := by simp; omega
    clear hr h1 h2
    go_enter Try.func60, Try.ntmps60
    go_wp2_with fail
    go_ret
    exact ⟨rfl, rfl⟩
  have d2 : decide (4611686018427387904 < x) = false := by simp; omega
  obtain rfl : r = false := by
    cases r with
    | false => rfl
    | true => have := hr.1 rfl; omega
  clear hr h1 h2
  go_enter Try.func60, Try.ntmps60
  go_wp2_with fail
  go_ret
  exact ⟨rfl, rfl⟩
set_option maxRecDepth 100000 in
set_option maxHeartbeats 4000000 in
theorem anygreat_any (A : Option Addr) (n c : Nat) (L : List Int) (w : World) (hA : Row w A (L.map (Value.int .i64))) (hz : n = L.length) (hn : n ≤ 9223372036854775807) (r : Bool) (hr : r = true ↔ ∃ s ∈ L, greatZ s) :
    Calls Try.prog 75 #[.slice A n c, .func (.func 60) #[] #[]] w fun e w' => (∃ v : Int, e = .returned (.int .i64 v) ∧ (r = true → 0 ≤ v) ∧ (r = false → v = -1)) ∧ Below w.heap.size w w' := by
  have HA := Lib.hid hA
  have HZ := Lib.hid hz
  have HR := Lib.hid hr
  clear hA hz hr
  go_enter Try.func75, Try.ntmps75
  go_wp2_with fail
  go_loopw [8] (fun i wr => ∃ k : Nat, k ≤ n ∧ i = .int .i64 k ∧ Hid (∀ (j : Nat) (h : j < L.length), j < k → ¬ greatZ L[j]) ∧ Hid (Below w.heap.size w wr)) (fun i _ => n - (intOf i).toNat)
  case atStart => exact ⟨0, Nat.zero_le _, rfl, Lib.hid (fun j _ h => by omega), Lib.hid (Below.refl _ _)⟩
  case round =>
    obtain ⟨k, hk, rfl, HK, HB⟩ := hrel
    by_cases hlt : k < n
    · have hkz : k < L.length := by have := HZ.out; omega
      have hki : (k : Int) < (n : Int) := by omega
      have hk0 : (0 : Int) ≤ (k : Int) := by omega
      obtain ⟨b, off, hAe, c0⟩ := Row.cell (HA.out.keep (Nat.le_refl _) HB.out) hkz
      obtain ⟨s, hs⟩ : ∃ s, s = L[k] := ⟨_, rfl⟩
      rw [← hs] at c0
      have HS := Lib.hid hs
      obtain ⟨q, hq⟩ : ∃ q : Bool, q = true ↔ greatZ s := by
        by_cases h : greatZ s
        · exact ⟨true, by simp [h]⟩
        · exact ⟨false, by simp [h]⟩
      have HQ := Lib.hid hq
      clear hq hs
      subst hAe
      go_wp2_with fail
      refine (great_any s _ q HQ.out).mono ?_
      rintro e w1 ⟨rfl, rfl⟩
      have HB1 := Lib.hid HB.out
      clear c0
      cases q with
      | true =>
        have HT := Lib.hid (show r = true from HR.out.2 ⟨s, by rw [HS.out]; exact List.getElem_mem _, HQ.out.1 rfl⟩)
        clear hlt
        go_wp2_with fail
        go_ret
        exact ⟨⟨k, rfl, fun _ => (by omega), fun h => (by rw [HT.out] at h; cases h)⟩, HB1.out⟩
      | false =>
        have hnm : ¬ greatZ s := fun h => by have := HQ.out.2 h; cases this
        have HK2 := Lib.hid (show ∀ (j : Nat) (h : j < L.length), j < k + 1 → ¬ greatZ L[j] from fun j h hj => by
          rcases Nat.lt_or_ge j k with e | e
          · exact HK.out j h e
          · obtain rfl : j = k := by omega
            rw [← HS.out]; exact hnm)
        clear hlt hnm
        go_wp2_with fail
        go_roundw
        case rel => exact ⟨k + 1, by omega, by go_num, HK2, HB1⟩
        case measure => simp [intOf]; omega
    · have hge : ¬ (k : Int) < (n : Int) := by omega
      have HT := Lib.hid (show r = false by
        cases r with
        | false => rfl
        | true =>
          obtain ⟨s, hs, hn⟩ := HR.out.1 rfl
          obtain ⟨j, hj, rfl⟩ := List.mem_iff_getElem.1 hs
          exact absurd hn (HK.out j hj (by have := HZ.out; omega)))
      clear hlt
      go_wp2_with fail
      go_ret
      exact ⟨⟨-1, rfl, fun h => (by rw [HT.out] at h; cases h), fun _ => rfl⟩, HB.out⟩
end Go.Proofs.Ytlfhjjlgmhkepaa
