/- The document's Subset. -/
import Derived.Test.YtbecgknahhhfiaaX
namespace Go.Proofs.Ytbecgknahhhfiaa
open Go.RowKit
set_option linter.unusedSimpArgs false
set_option linter.unusedVariables false
theorem first_drop {M : List ByteArray} {s : ByteArray} {i t : Nat} (h : FirstAt M s (some i)) (ht : t ≤ i) : FirstAt (M.drop t) s (some (i - t)) := by
  obtain ⟨hi, e, hn⟩ := h
  refine ⟨by rw [List.length_drop]; omega, ?_, fun j hj => ?_⟩
  · rw [List.getElem_drop]; simp only [show t + (i - t) = i by omega]; exact e
  · rw [List.getElem_drop]; exact hn (t + j) (by omega)
theorem first_drop_none {M : List ByteArray} {s : ByteArray} {t : Nat} (h : FirstAt M s none) : FirstAt (M.drop t) s none := fun j hj => by
  rw [List.getElem_drop]; exact h (t + j) (by rw [List.length_drop] at hj; omega)
theorem first_drop_past {M : List ByteArray} {s : ByteArray} {i t : Nat} (ha : apartP M) (h : FirstAt M s (some i)) (ht : i < t) : FirstAt (M.drop t) s none := fun j hj e => by
  rw [List.getElem_drop] at e
  rw [List.length_drop] at hj
  obtain ⟨hi, e1, _⟩ := h
  exact ha i (t + j) (by omega) (by omega) (e1.trans e.symm)
set_option maxRecDepth 100000 in
set_option maxHeartbeats 8000000 in
theorem refsubset_any (A B : Option Addr) (n c m d : Nat) (L M : List ByteArray) (w : World) (hA : Row w A (texts L)) (hB : Row w B (texts M)) (hn : n = L.length) (hm : m = M.length)
    (hn2 : n ≤ 9223372036854775807) (hm2 : m ≤ 9223372036854775807) (ha : apartP M) (r : Bool) (hr : r = true ↔ L.Sublist M) :
    Calls Try.prog 13 #[.slice A n c, .slice B m d] w fun e w' => e = .returned (.bool r) ∧ w = w' := by
  have HA := Lib.hid hA
  have HB := Lib.hid hB
  have HN := Lib.hid hn
  have HM := Lib.hid hm
  have HR := Lib.hid hr
  have HAP := Lib.hid ha
  clear hA hB hn hm hr ha
  go_enter Try.func13, Try.ntmps13
  go_wp2_with fail
  go_loop [5, 6] (fun v i => ∃ (k t : Nat) (u : Int), k ≤ n ∧ i = .int .i64 k ∧ v = .int .i64 u ∧ Hid (u = (t : Int) - 1) ∧ Hid (r = true ↔ (L.drop k).Sublist (M.drop t))) (fun _ i => n - (intOf i).toNat)
  case atStart => exact ⟨0, 0, -1, Nat.zero_le _, rfl, rfl, Lib.hid (by omega), HR⟩
  case round =>
    obtain ⟨k, t, u, hk, rfl, rfl, HU, HS⟩ := hrel
    by_cases hlt : k < n
    · have hkz : k < L.length := by have := HN.out; omega
      have hki : (k : Int) < (n : Int) := by omega
      have hk0 : (0 : Int) ≤ (k : Int) := by omega
      obtain ⟨b, off, hAe, c0⟩ := text_cell HA.out hkz
      obtain ⟨s, hs⟩ : ∃ s, s = L[k] := ⟨_, rfl⟩
      rw [← hs] at c0
      have HT := Lib.hid (show L.drop k = s :: L.drop (k + 1) by rw [hs]; exact List.drop_eq_getElem_cons hkz)
      subst hAe
      clear hs
      go_wp2_with fail
      refine (find_any B m d M s _ HB.out HM.out hm2).mono ?_
      rintro e w2 ⟨⟨o, ho, rfl⟩, rfl⟩
      have HO := Lib.hid ho
      clear ho
      cases o with
      | none =>
        obtain rfl : r = false := by
          cases r with
          | false => rfl
          | true => have := HS.out.1 rfl; rw [HT.out] at this; exact absurd this (sub_none (first_drop_none HO.out))
        have e1 : (none : Option Nat).getD 0 = 0 := rfl
        have e2 : (none : Option Nat).isSome = false := rfl
        rw [e1, e2]
        clear hlt
        go_wp2_with fail
        go_ret
        exact ⟨rfl, rfl⟩
      | some i =>
        have e1 : (some i).getD 0 = i := rfl
        have e2 : (some i).isSome = true := rfl
        rw [e1, e2]
        by_cases hit : i < t
        · obtain rfl : r = false := by
            cases r with
            | false => rfl
            | true => have := HS.out.1 rfl; rw [HT.out] at this; exact absurd this (sub_none (first_drop_past HAP.out HO.out hit))
          have d1 : decide ((i : Int) ≤ u) = true := by have := HU.out; simp; omega
          have d2 : (i : Int) ≤ u := by have := HU.out; omega
          clear hlt hit
          go_wp2_with fail
          go_ret
          exact ⟨rfl, rfl⟩
        · have d1 : decide ((i : Int) ≤ u) = false := by have := HU.out; simp; omega
          have HS2 := Lib.hid (show r = true ↔ (L.drop (k + 1)).Sublist (M.drop (i + 1)) by
            have := HS.out
            rw [HT.out, sub_some (first_drop HO.out (by omega)), List.drop_drop] at this
            rw [show t + (i - t + 1) = i + 1 by omega] at this
            exact this)
          clear hlt hit
          go_wp2_with fail
          go_round
          case rel => exact ⟨k + 1, i + 1, i, by omega, by go_num, rfl, Lib.hid (by omega), HS2⟩
          case measure => simp [intOf]; omega
    · have hge : ¬ (k : Int) < (n : Int) := by omega
      obtain rfl : r = true := HS.out.2 (by rw [List.drop_of_length_le (by have := HN.out; omega)]; exact List.nil_sublist _)
      clear hlt
      go_wp2_with fail
      go_ret
      exact ⟨rfl, rfl⟩
end Go.Proofs.Ytbecgknahhhfiaa
