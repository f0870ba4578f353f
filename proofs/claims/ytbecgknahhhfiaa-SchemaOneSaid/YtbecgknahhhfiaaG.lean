/- Contains; whether no two texts are alike. -/
import Derived.Test.YtbecgknahhhfiaaF
namespace Go.Proofs.Ytbecgknahhhfiaa
open Go.RowKit
set_option linter.unusedSimpArgs false
set_option linter.unusedVariables false
theorem FirstAt.mem {L : List ByteArray} {s : ByteArray} {o : Option Nat} (h : FirstAt L s o) : o.isSome = true ↔ s ∈ L := by
  cases o with
  | none => exact ⟨fun e => (by cases e), fun hm => by obtain ⟨j, hj, e⟩ := List.mem_iff_getElem.1 hm; exact absurd e (h j hj)⟩
  | some i => obtain ⟨hi, e, _⟩ := h; exact ⟨fun _ => e ▸ List.getElem_mem hi, fun _ => rfl⟩
set_option maxRecDepth 100000 in
set_option maxHeartbeats 1000000 in
theorem contains_any (A : Option Addr) (n c : Nat) (L : List ByteArray) (s : ByteArray) (w : World) (hA : Row w A (texts L)) (hz : n = L.length) (hn : n ≤ 9223372036854775807) (r : Bool) (hr : r = true ↔ s ∈ L) :
    Calls Try.prog 40 #[.slice A n c, .string s] w fun e w' => e = .returned (.bool r) ∧ w = w' := by
  have HA := Lib.hid hA
  have HZ := Lib.hid hz
  have HR := Lib.hid hr
  clear hA hz hr
  go_enter Try.func40, Try.ntmps40
  go_wp2_with fail
  refine (index_any A n c L s _ HA.out HZ.out hn).mono ?_
  rintro e w1 ⟨⟨o, ho, rfl⟩, rfl⟩
  have hm := ho.mem
  cases o with
  | none =>
    obtain rfl : r = false := by
      cases r with
      | false => rfl
      | true => exact absurd (hm.2 (HR.out.1 rfl)) (by simp)
    have e1 : idxO none = -1 := rfl
    rw [e1]
    clear hm ho
    go_wp2_with fail
    go_ret
    exact ⟨rfl, rfl⟩
  | some i =>
    obtain rfl : r = true := HR.out.2 (hm.1 rfl)
    have e1 : idxO (some i) = (i : Int) := rfl
    rw [e1]
    have h0 : (0 : Int) ≤ (i : Int) := by omega
    clear hm ho
    go_wp2_with fail
    go_ret
    exact ⟨by first | rfl | simp, rfl⟩
theorem Row.front {w : World} {A : Option Addr} {L : List ByteArray} (h : Row w A (texts L)) (k : Nat) : Row w A (texts (L.take k)) := by
  rcases h with h | ⟨b, off, rfl, hc⟩
  · left
    have : L = [] := List.map_eq_nil_iff.1 h
    subst this; simp [texts]
  · refine .inr ⟨b, off, rfl, fun j u hu => hc j u ?_⟩
    unfold texts at hu ⊢
    rw [List.map_take] at hu
    rw [List.getElem?_take] at hu
    split at hu
    · exact hu
    · cases hu
/-- No two texts are alike. -/
def apartP (L : List ByteArray) : Prop := ∀ (i j : Nat) (hij : i < j) (h : j < L.length), L[i]'(Nat.lt_trans hij h) ≠ L[j]
set_option maxRecDepth 100000 in
set_option maxHeartbeats 4000000 in
theorem apart_any (A : Option Addr) (n c : Nat) (L : List ByteArray) (w : World) (hA : Row w A (texts L)) (hz : n = L.length) (hnc : n ≤ c) (hn : n ≤ 9223372036854775807) (r : Bool) (hr : r = true ↔ apartP L) :
    Calls Try.prog 37 #[.slice A n c] w fun e w' => e = .returned (.bool r) ∧ w = w' := by
  have HA := Lib.hid hA
  have HZ := Lib.hid hz
  have HR := Lib.hid hr
  clear hA hz hr
  go_enter Try.func37, Try.ntmps37
  go_wp2_with fail
  go_loopw [7] (fun i wr => ∃ k : Nat, k ≤ n ∧ i = .int .i64 k ∧ Hid (∀ (i j : Nat) (hij : i < j) (h : j < L.length), j < k → L[i]'(Nat.lt_trans hij h) ≠ L[j]) ∧ wr = w) (fun i _ => n - (intOf i).toNat)
  case atStart => exact ⟨0, Nat.zero_le _, rfl, Lib.hid (fun i j _ _ h => by omega), rfl⟩
  case round =>
    obtain ⟨k, hk, rfl, HK, rfl⟩ := hrel
    by_cases hlt : k < n
    · have hkz : k < L.length := by have := HZ.out; omega
      have hki : (k : Int) < (n : Int) := by omega
      have hk0 : (0 : Int) ≤ (k : Int) := by omega
      have hkc : (k : Int) ≤ (c : Int) := by omega
      obtain ⟨b, off, rfl, c0⟩ := text_cell HA.out hkz
      obtain ⟨s, hs⟩ : ∃ s, s = L[k] := ⟨_, rfl⟩
      rw [← hs] at c0
      obtain ⟨q, hq⟩ : ∃ q : Bool, q = true ↔ s ∈ L.take k := by
        by_cases h : s ∈ L.take k
        · exact ⟨true, by simp [h]⟩
        · exact ⟨false, by simp [h]⟩
      have HQ := Lib.hid hq
      have HS := Lib.hid hs
      clear hq hs
      go_wp2_with fail
      refine (contains_any (some ⟨b, off, none⟩) k c (L.take k) s _ (HA.out.front k) (by rw [List.length_take]; omega) (by omega) q HQ.out).mono ?_
      rintro e w1 ⟨rfl, rfl⟩
      cases q with
      | true =>
        obtain rfl : r = false := by
          cases r with
          | false => rfl
          | true =>
            obtain ⟨j, hj, e⟩ := List.mem_iff_getElem.1 (HQ.out.1 rfl)
            rw [List.length_take] at hj
            rw [List.getElem_take, HS.out] at e
            exact absurd e (HR.out.1 rfl j k (by omega) hkz)
        clear hlt
        go_wp2_with fail
        go_ret
        exact ⟨rfl, rfl⟩
      | false =>
        have HK2 := Lib.hid (show ∀ (i j : Nat) (hij : i < j) (h : j < L.length), j < k + 1 → L[i]'(Nat.lt_trans hij h) ≠ L[j] from fun i j hij h hj e => by
          rcases Nat.lt_or_ge j k with h1 | h1
          · exact HK.out i j hij h h1 e
          · obtain rfl : j = k := by omega
            have hm : s ∈ L.take j := by
              rw [HS.out, ← e]
              exact List.mem_iff_getElem.2 ⟨i, by rw [List.length_take]; omega, by rw [List.getElem_take]⟩
            have := HQ.out.2 hm; cases this)
        clear hlt
        go_wp2_with fail
        go_roundw
        case rel => exact ⟨k + 1, by omega, by go_num, HK2, by first | rfl | trivial⟩
        case measure => simp [intOf]; omega
    · have hge : ¬ (k : Int) < (n : Int) := by omega
      obtain rfl : r = true := HR.out.2 (fun i j hij h => HK.out i j hij h (by have := HZ.out; omega))
      clear hlt
      go_wp2_with fail
      go_ret
      exact ⟨rfl, rfl⟩
end Go.Proofs.Ytbecgknahhhfiaa
