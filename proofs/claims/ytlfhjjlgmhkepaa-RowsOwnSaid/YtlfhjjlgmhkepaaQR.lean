/- A row's aggs: whether one is not right (the code's). -/
import Derived.Test.YtlfhjjlgmhkepaaQP
namespace Go.Proofs.Ytlfhjjlgmhkepaa
open Go.RowKit
set_option linter.unusedSimpArgs false
set_option linter.unusedVariables false
/-- A right agg. -/
def okA (a : Ag) : Prop := rightB a.1 a.2.1 a.2.2 = true
instance (a : Ag) : Decidable (okA a) := by unfold okA; infer_instance
set_option maxRecDepth 100000 in
set_option maxHeartbeats 1000000 in
theorem noagg_any (t0 t1 t2 : Int) (w : World) (r : Bool) (hr : r = true ↔ ¬ okA (t0, t1, t2)) :
    Calls Try.prog 36 #[.agg #[.int .i64 t0, .int .i64 t1, .int .i64 t2]] w fun e w' => e = .returned (.bool r) ∧ Below w.heap.size w w' := by
  have HR := Lib.hid (show rightB t0 t1 t2 = !r by unfold okA at hr; cases r <;> simp_all)
  clear hr
  go_enter Try.func36, Try.ntmps36
  go_wp2_with fail
  refine (right_any t0 t1 t2 _).mono ?_
  rw [HR.out]
  rintro e w1 ⟨rfl, hB⟩
  go_wp2_with fail
  go_ret
  exact ⟨by cases r <;> rfl, bthen (bpush (Below.refl _ _) _) hB⟩
set_option maxRecDepth 100000 in
set_option maxHeartbeats 4000000 in
theorem anyagg_any (A : Option Addr) (n c : Nat) (L : List Ag) (w : World) (hA : Row w A (cellsG L)) (hz : n = L.length) (hn : n ≤ 9223372036854775807) (r : Bool) (hr : r = true ↔ ∃ s ∈ L, ¬ okA s) :
    Calls Try.prog 67 #[.slice A n c, .func (.func 36) #[] #[]] w fun e w' => (∃ v : Int, e = .returned (.int .i64 v) ∧ (r = true → 0 ≤ v) ∧ (r = false → v = -1)) ∧ Below w.heap.size w w' := by
  have HA := Lib.hid hA
  have HZ := Lib.hid hz
  have HR := Lib.hid hr
  clear hA hz hr
  go_enter Try.func67, Try.ntmps67
  go_wp2_with fail
  go_loopw [8] (fun i wr => ∃ k : Nat, k ≤ n ∧ i = .int .i64 k ∧ Hid (∀ (j : Nat) (h : j < L.length), j < k → okA L[j]) ∧ Hid (Below w.heap.size w wr)) (fun i _ => n - (intOf i).toNat)
  case atStart => exact ⟨0, Nat.zero_le _, rfl, Lib.hid (fun j _ h => by omega), Lib.hid (Below.refl _ _)⟩
  case round =>
    obtain ⟨k, hk, rfl, HK, HB⟩ := hrel
    by_cases hlt : k < n
    · have hkz : k < L.length := by have := HZ.out; omega
      have hki : (k : Int) < (n : Int) := by omega
      have hk0 : (0 : Int) ≤ (k : Int) := by omega
      obtain ⟨b, off, hAe, c0, c1, c2⟩ := (HA.out.keep (Nat.le_refl _) HB.out).at3 hkz
      obtain ⟨⟨t0, t1, t2⟩, hs⟩ : ∃ s, s = L[k] := ⟨_, rfl⟩
      rw [← hs] at c0 c1 c2
      have HS := Lib.hid hs
      obtain ⟨q, hq⟩ : ∃ q : Bool, q = true ↔ ¬ okA (t0, t1, t2) := by
        by_cases h : okA (t0, t1, t2)
        · exact ⟨false, by simp [h]⟩
        · exact ⟨true, by simp [h]⟩
      have HQ := Lib.hid hq
      clear hq hs
      subst hAe
      go_wp2_with fail
      refine (noagg_any t0 t1 t2 _ q HQ.out).mono ?_
      rintro e w1 ⟨rfl, hB1⟩
      have HB1 := Lib.hid (bthen HB.out hB1)
      clear hB1 c0 c1 c2
      cases q with
      | true =>
        have HT := Lib.hid (show r = true from HR.out.2 ⟨(t0, t1, t2), by rw [HS.out]; exact List.getElem_mem _, HQ.out.1 rfl⟩)
        clear hlt
        go_wp2_with fail
        go_ret
        exact ⟨⟨k, rfl, fun _ => (by omega), fun h => (by rw [HT.out] at h; cases h)⟩, HB1.out⟩
      | false =>
        have hnm : okA (t0, t1, t2) := by
          by_cases h : okA (t0, t1, t2)
          · exact h
          · have := HQ.out.2 h; cases this
        have HK2 := Lib.hid (show ∀ (j : Nat) (h : j < L.length), j < k + 1 → okA L[j] from fun j h hj => by
          rcases Nat.lt_or_ge j k with e | e
          · exact HK.out j h e
          · obtain rfl : j = k := by omega
            rw [← HS.out]; exact hnm)
        clear hlt hnm
        go_wp2_with fail
        go_roundw
        case rel => exact ⟨k + 1, by omega, by go_num, HK2, HB1⟩
        case measure => simp [intOf]; omega
    · have hge : ¬ (k : Int) < (n : Int) := by omega
      have HT := Lib.hid (show r = false by
        cases r with
        | false => rfl
        | true =>
          obtain ⟨s, hs, hn⟩ := HR.out.1 rfl
          obtain ⟨j, hj, rfl⟩ := List.mem_iff_getElem.1 hs
          exact absurd (HK.out j hj (by have := HZ.out; omega)) hn)
      clear hlt
      go_wp2_with fail
      go_ret
      exact ⟨⟨-1, rfl, fun h => (by rw [HT.out] at h; cases h), fun _ => rfl⟩, HB.out⟩
set_option maxRecDepth 100000 in
set_option maxHeartbeats 1000000 in
theorem hasagg_any (A : Option Addr) (n c : Nat) (L : List Ag) (w : World) (hA : Row w A (cellsG L)) (hz : n = L.length) (hn : n ≤ 9223372036854775807) (r : Bool) (hr : r = true ↔ ∃ s ∈ L, ¬ okA s) :
    Calls Try.prog 39 #[.slice A n c, .func (.func 36) #[] #[]] w fun e w' => e = .returned (.bool r) ∧ Below w.heap.size w w' := by
  have HA := Lib.hid hA
  have HZ := Lib.hid hz
  have HR := Lib.hid hr
  clear hA hz hr
  go_enter Try.func39, Try.ntmps39
  go_wp2_with fail
  refine (anyagg_any A n c L _ HA.out HZ.out hn r HR.out).mono ?_
  rintro e w1 ⟨⟨v, rfl, hv1, hv2⟩, hB⟩
  cases r with
  | true =>
    have h0 := hv1 rfl
    have d0 : decide (0 ≤ v) = true := by simpa using h0
    clear hv1 hv2
    go_wp2_with fail
    go_ret
    exact ⟨rfl, hB⟩
  | false =>
    obtain rfl : v = -1 := hv2 rfl
    clear hv1 hv2
    go_wp2_with fail
    go_ret
    exact ⟨rfl, hB⟩

end Go.Proofs.Ytlfhjjlgmhkepaa
