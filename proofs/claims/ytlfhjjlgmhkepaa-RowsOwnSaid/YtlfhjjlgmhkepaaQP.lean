/- A row's values: whether one is no value (the code's). -/
import Derived.Test.YtlfhjjlgmhkepaaQO
namespace Go.Proofs.Ytlfhjjlgmhkepaa
open Go.RowKit
set_option linter.unusedSimpArgs false
set_option linter.unusedVariables false
set_option maxRecDepth 100000 in
set_option maxHeartbeats 1000000 in
theorem novalueR_any (s : ByteArray) (w : World) (hs : s.size ≤ 9223372036854775807) (r : Bool) (hr : r = true ↔ ¬ valP s) :
    Calls Try.prog 34 #[.string s] w fun e w' => e = .returned (.bool r) ∧ Below w.heap.size w w' := by
  have HR := Lib.hid (show (!r) = true ↔ valP s by cases r <;> simp_all)
  clear hr
  go_enter Try.func34, Try.ntmps34
  go_wp2_with fail
  refine (value_any s _ hs (!r) HR.out).mono ?_
  rintro e w1 ⟨rfl, hB⟩
  go_wp2_with fail
  go_ret
  exact ⟨by cases r <;> rfl, hB⟩
set_option maxRecDepth 100000 in
set_option maxHeartbeats 4000000 in
theorem anyvalR_any (A : Option Addr) (n c : Nat) (L : List ByteArray) (w : World) (hA : Row w A (texts L)) (hz : n = L.length) (hn : n ≤ 9223372036854775807) (hL : ∀ s ∈ L, s.size ≤ 9223372036854775807) (r : Bool) (hr : r = true ↔ ∃ s ∈ L, ¬ valP s) :
    Calls Try.prog 66 #[.slice A n c, .func (.func 34) #[] #[]] w fun e w' => (∃ v : Int, e = .returned (.int .i64 v) ∧ (r = true → 0 ≤ v) ∧ (r = false → v = -1)) ∧ Below w.heap.size w w' := by
  have HA := Lib.hid hA
  have HZ := Lib.hid hz
  have HR := Lib.hid hr
  have HL := Lib.hid hL
  clear hA hz hr hL
  go_enter Try.func66, Try.ntmps66
  go_wp2_with fail
  go_loopw [8] (fun i wr => ∃ k : Nat, k ≤ n ∧ i = .int .i64 k ∧ Hid (∀ (j : Nat) (h : j < L.length), j < k → valP L[j]) ∧ Hid (Below w.heap.size w wr)) (fun i _ => n - (intOf i).toNat)
  case atStart => exact ⟨0, Nat.zero_le _, rfl, Lib.hid (fun j _ h => by omega), Lib.hid (Below.refl _ _)⟩
  case round =>
    obtain ⟨k, hk, rfl, HK, HB⟩ := hrel
    by_cases hlt : k < n
    · have hkz : k < L.length := by have := HZ.out; omega
      have hki : (k : Int) < (n : Int) := by omega
      have hk0 : (0 : Int) ≤ (k : Int) := by omega
      obtain ⟨b, off, hAe, c0⟩ := text_cell (HA.out.keep (Nat.le_refl _) HB.out) hkz
      obtain ⟨s, hs⟩ : ∃ s, s = L[k] := ⟨_, rfl⟩
      rw [← hs] at c0
      have HS := Lib.hid hs
      obtain ⟨q, hq⟩ : ∃ q : Bool, q = true ↔ ¬ valP s := by
        by_cases h : valP s
        · exact ⟨false, by simp [h]⟩
        · exact ⟨true, by simp [h]⟩
      have HQ := Lib.hid hq
      clear hq hs
      subst hAe
      go_wp2_with fail
      refine (novalueR_any s _ (by rw [HS.out]; exact HL.out _ (List.getElem_mem _)) q HQ.out).mono ?_
      rintro e w1 ⟨rfl, hB1⟩
      have HB1 := Lib.hid (bthen HB.out hB1)
      clear hB1 c0
      cases q with
      | true =>
        have HT := Lib.hid (show r = true from HR.out.2 ⟨s, by rw [HS.out]; exact List.getElem_mem _, HQ.out.1 rfl⟩)
        clear hlt
        go_wp2_with fail
        go_ret
        exact ⟨⟨k, rfl, fun _ => (by omega), fun h => (by rw [HT.out] at h; cases h)⟩, HB1.out⟩
      | false =>
        have hnm : valP s := by
          by_cases h : valP s
          · exact h
          · have := HQ.out.2 h; cases this
        have HK2 := Lib.hid (show ∀ (j : Nat) (h : j < L.length), j < k + 1 → valP L[j] from fun j h hj => by
          rcases Nat.lt_or_ge j k with e | e
          · exact HK.out j h e
          · obtain rfl : j = k := by omega
            rw [← HS.out]; exact hnm)
        clear hlt hnm
        go_wp2_with fail
        go_roundw
        case rel => exact ⟨k + 1, by omega, by go_num, HK2, HB1⟩
        case measure => simp [intOf]; omega
    · have hge : ¬ (k : Int) < (n : Int) := by omega
      have HT := Lib.hid (show r = false by
        cases r with
        | false => rfl
        | true =>
          obtain ⟨s, hs, hn⟩ := HR.out.1 rfl
          obtain ⟨j, hj, rfl⟩ := List.mem_iff_getElem.1 hs
          exact absurd (HK.out j hj (by have := HZ.out; omega)) hn)
      clear hlt
      go_wp2_with fail
      go_ret
      exact ⟨⟨-1, rfl, fun h => (by rw [HT.out] at h; cases h), fun _ => rfl⟩, HB.out⟩
set_option maxRecDepth 100000 in
set_option maxHeartbeats 1000000 in
theorem hasnoR_any (A : Option Addr) (n c : Nat) (L : List ByteArray) (w : World) (hA : Row w A (texts L)) (hz : n = L.length) (hn : n ≤ 9223372036854775807) (hL : ∀ s ∈ L, s.size ≤ 9223372036854775807) (r : Bool) (hr : r = true ↔ ∃ s ∈ L, ¬ valP s) :
    Calls Try.prog 38 #[.slice A n c, .func (.func 34) #[] #[]] w fun e w' => e = .returned (.bool r) ∧ Below w.heap.size w w' := by
  have HA := Lib.hid hA
  have HZ := Lib.hid hz
  have HR := Lib.hid hr
  clear hA hz hr
  go_enter Try.func38, Try.ntmps38
  go_wp2_with fail
  refine (anyvalR_any A n c L _ HA.out HZ.out hn hL r HR.out).mono ?_
  rintro e w1 ⟨⟨v, rfl, hv1, hv2⟩, hB⟩
  cases r with
  | true =>
    have h0 := hv1 rfl
    have d0 : decide (0 ≤ v) = true := by simpa using h0
    clear hv1 hv2
    go_wp2_with fail
    go_ret
    exact ⟨rfl, hB⟩
  | false =>
    obtain rfl : v = -1 := hv2 rfl
    clear hv1 hv2
    go_wp2_with fail
    go_ret
    exact ⟨rfl, hB⟩

end Go.Proofs.Ytlfhjjlgmhkepaa
