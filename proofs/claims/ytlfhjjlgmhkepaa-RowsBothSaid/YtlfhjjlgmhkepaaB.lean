/- Lists of texts: Fits. -/
import Derived.Test.YtlfhjjlgmhkepaaA
namespace Go.Proofs.Ytlfhjjlgmhkepaa
open Go.RowKit
set_option linter.unusedSimpArgs false
set_option linter.unusedVariables false
def texts (l : List ByteArray) : List Value := l.map Value.string
theorem text_cell {w : World} {A : Option Addr} {l : List ByteArray} {i : Nat} (hA : Row w A (texts l)) (hi : i < l.length) :
    ∃ b off, A = some ⟨b, off, none⟩ ∧ w.cell? ⟨b, off + i, none⟩ = some (.string l[i]) := by
  rcases hA with hA | ⟨b, off, rfl, hc⟩
  · have := congrArg List.length hA; simp [texts] at this; rw [this] at hi; simp at hi
  · exact ⟨b, off, rfl, hc i _ (by simp [texts, hi])⟩
def fitsP (l : List ByteArray) : Prop := l.length ≤ 20 ∧ ∀ s ∈ l, s.size ≤ 80
set_option maxRecDepth 100000 in
set_option maxHeartbeats 4000000 in
theorem fits_any (A : Option Addr) (n c : Nat) (L : List ByteArray) (w : World) (hA : Row w A (texts L)) (hz : n = L.length) (hn : n ≤ 9223372036854775807) (r : Bool) (hr : r = true ↔ fitsP L) :
    Calls Try.prog 9 #[.slice A n c] w fun e w' => e = .returned (.bool r) ∧ w = w' := by
  have HA := Lib.hid hA
  have HZ := Lib.hid hz
  have HR := Lib.hid hr
  clear hA hz hr
  go_enter Try.func9, Try.ntmps9
  go_wp2_with fail
  go_loopw [3] (fun i wr => ∃ k : Nat, k ≤ n ∧ k ≤ 20 ∧ i = .int .i64 k ∧ Hid (∀ (j : Nat) (h : j < L.length), j < k → L[j].size ≤ 80) ∧ wr = w) (fun i _ => n - (intOf i).toNat)
  case atStart => exact ⟨0, Nat.zero_le _, by omega, rfl, Lib.hid (fun j _ h => by omega), rfl⟩
  case round =>
    obtain ⟨k, hk, hk2, rfl, HK, rfl⟩ := hrel
    by_cases hlt : k < n
    · have hkz : k < L.length := by have := HZ.out; omega
      have hki : (k : Int) < (n : Int) := by omega
      have hk0 : (0 : Int) ≤ (k : Int) := by omega
      by_cases h20 : k = 20
      · have he : ((k : Int) == 20) = true := by rw [beq_iff_eq]; omega
        obtain rfl : r = false := by
          cases r with
          | false => rfl
          | true => have := (HR.out.1 rfl).1; omega
        clear hlt h20
        go_wp2_with fail
        go_ret
        exact ⟨rfl, rfl⟩
      · have he : ((k : Int) == 20) = false := by rw [beq_eq_false_iff_ne]; omega
        obtain ⟨b, off, rfl, c0⟩ := text_cell HA.out hkz
        obtain ⟨s, hs⟩ : ∃ s, s = L[k] := ⟨_, rfl⟩
        rw [← hs] at c0
        obtain ⟨z, hzs⟩ : ∃ z, z = s.size := ⟨_, rfl⟩
        have hzz : s.size = z := hzs.symm
        have HS := Lib.hid hs
        clear hs hzs
        by_cases h80 : 80 < z
        · have hd : decide ((80 : Int) < (z : Int)) = true := by simp; omega
          obtain rfl : r = false := by
            cases r with
            | false => rfl
            | true => have := (HR.out.1 rfl).2 L[k] (List.getElem_mem _); rw [← HS.out] at this; omega
          clear hlt h20 h80
          go_wp2_with fail
          go_ret
          exact ⟨rfl, rfl⟩
        · have hd : decide ((80 : Int) < (z : Int)) = false := by simp; omega
          have HK2 := Lib.hid (show ∀ (j : Nat) (h : j < L.length), j < k + 1 → L[j].size ≤ 80 from fun j h hj => by
            rcases Nat.lt_or_ge j k with e | e
            · exact HK.out j h e
            · obtain rfl : j = k := by omega
              rw [← HS.out]; omega)
          have hk20 : k + 1 ≤ 20 := by omega
          clear hlt h20 h80
          go_wp2_with fail
          go_roundw
          case rel => exact ⟨k + 1, by omega, by omega, by go_num, HK2, by first | rfl | trivial⟩
          case measure => simp [intOf]; omega
    · have hge : ¬ (k : Int) < (n : Int) := by omega
      obtain rfl : r = true := HR.out.2 ⟨by have := HZ.out; omega, fun s hs => by
        obtain ⟨j, hj, rfl⟩ := List.mem_iff_getElem.1 hs
        exact HK.out j hj (by have := HZ.out; omega)⟩
      clear hlt
      go_wp2_with fail
      go_ret
      exact ⟨rfl, rfl⟩
end Go.Proofs.Ytlfhjjlgmhkepaa
