/- Whether a list is gone through; whether two lists are one; the live question. -/
import Derived.Test.YtgegmbkjkiifaaaH
import Derived.Test.YtgegmbkjkiifaaaGK
namespace Go.Proofs.Ytgegmbkjkiifaaa
open Go.RowKit Go.Lib
set_option linter.unusedSimpArgs false
set_option linter.unusedVariables false
def fits6P (l : List ByteArray) : Prop := l.length ≤ 100 ∧ ∀ s ∈ l, s.size ≤ 60
set_option maxRecDepth 100000 in
set_option maxHeartbeats 4000000 in
theorem fits_any (A : Option Addr) (n c : Nat) (L : List ByteArray) (w : World) (hA : Row w A (texts L)) (hz : n = L.length) (hn : n ≤ 9223372036854775807) (r : Bool) (hr : r = true ↔ fits6P L) :
    Calls Try.prog 8 #[.slice A n c] w fun e w' => e = .returned (.bool r) ∧ w = w' := by
  have HA := Lib.hid hA
  have HZ := Lib.hid hz
  have HR := Lib.hid hr
  clear hA hz hr
  go_enter Try.func8, Try.ntmps8
  go_wp2_with fail
  go_loopw [3] (fun i wr => ∃ k : Nat, k ≤ n ∧ k ≤ 100 ∧ i = .int .i64 k ∧ Hid (∀ (j : Nat) (h : j < L.length), j < k → L[j].size ≤ 60) ∧ wr = w) (fun i _ => n - (intOf i).toNat)
  case atStart => exact ⟨0, Nat.zero_le _, by omega, rfl, Lib.hid (fun j _ h => by omega), rfl⟩
  case round =>
    obtain ⟨k, hk, hk2, rfl, HK, rfl⟩ := hrel
    by_cases hlt : k < n
    · have hkz : k < L.length := by have := HZ.out; omega
      have hki : (k : Int) < (n : Int) := by omega
      have hk0 : (0 : Int) ≤ (k : Int) := by omega
      by_cases h20 : k = 100
      · have he : ((k : Int) == 100) = true := by rw [beq_iff_eq]; omega
        obtain rfl : r = false := by
          cases r with
          | false => rfl
          | true => have := (HR.out.1 rfl).1; omega
        clear hlt h20
        go_wp2_with fail
        go_ret
        exact ⟨rfl, rfl⟩
      · have he : ((k : Int) == 100) = false := by rw [beq_eq_false_iff_ne]; omega
        obtain ⟨b, off, rfl, c0⟩ := text_cell HA.out hkz
        obtain ⟨s, hs⟩ : ∃ s, s = L[k] := ⟨_, rfl⟩
        rw [← hs] at c0
        obtain ⟨z, hzs⟩ : ∃ z, z = s.size := ⟨_, rfl⟩
        have hzz : s.size = z := hzs.symm
        have HS := Lib.hid hs
        clear hs hzs
        by_cases h80 : 60 < z
        · have hd : decide ((60 : Int) < (z : Int)) = true := by simp; omega
          obtain rfl : r = false := by
            cases r with
            | false => rfl
            | true => have := (HR.out.1 rfl).2 L[k] (List.getElem_mem _); rw [← HS.out] at this; omega
          clear hlt h20 h80
          go_wp2_with fail
          go_ret
          exact ⟨rfl, rfl⟩
        · have hd : decide ((60 : Int) < (z : Int)) = false := by simp; omega
          have HK2 := Lib.hid (show ∀ (j : Nat) (h : j < L.length), j < k + 1 → L[j].size ≤ 60 from fun j h hj => by
            rcases Nat.lt_or_ge j k with e | e
            · exact HK.out j h e
            · obtain rfl : j = k := by omega
              rw [← HS.out]; omega)
          have hk20 : k + 1 ≤ 100 := by omega
          clear hlt h20 h80
          go_wp2_with fail
          go_roundw
          case rel => exact ⟨k + 1, by omega, by omega, by go_num, HK2, by first | rfl | trivial⟩
          case measure => simp [intOf]; omega
    · have hge : ¬ (k : Int) < (n : Int) := by omega
      obtain rfl : r = true := HR.out.2 ⟨by have := HZ.out; omega, fun s hs => by
        obtain ⟨j, hj, rfl⟩ := List.mem_iff_getElem.1 hs
        exact HK.out j hj (by have := HZ.out; omega)⟩
      clear hlt
      go_wp2_with fail
      go_ret
      exact ⟨rfl, rfl⟩

def aliveL : List ByteArray := [⟨#[112, 101, 97, 114]⟩, ⟨#[97, 112, 112, 108, 101]⟩, ⟨#[112, 101, 97, 114]⟩, ⟨#[112, 101, 97, 99, 104]⟩]
def aliveD : List ByteArray := [⟨#[97, 112, 112, 108, 101]⟩, ⟨#[112, 101, 97, 99, 104]⟩, ⟨#[112, 101, 97, 114]⟩]
instance (D : List ByteArray) : Decidable (rising D) := by unfold rising; infer_instance
instance (s : ByteArray) : Decidable (fitsT s) := by unfold fitsT; infer_instance
theorem al_dict : dictL aliveL = aliveD := by
  refine rising_ext (dictL_rising _) (by decide +kernel) fun s => ?_
  rw [dictL_mem]
  simp only [aliveL, aliveD, List.mem_cons, List.mem_nil_iff, or_false]
  constructor
  · rintro (h | h | h | h)
    · exact .inr (.inr h)
    · exact .inl h
    · exact .inr (.inr h)
    · exact .inr (.inl h)
  · rintro (h | h | h)
    · exact .inr (.inl h)
    · exact .inr (.inr (.inr h))
    · exact .inl h
theorem al_fits : ∀ s ∈ aliveL, fitsT s := by decide +kernel
theorem al_upto1 : upto aliveD ⟨#[112, 101, 97, 114]⟩ = 2 := by decide +kernel
theorem al_upto2 : upto aliveD ⟨#[98]⟩ = 1 := by decide +kernel
theorem al_rise : rising aliveD := by decide +kernel
theorem al_mem : (⟨#[112, 101, 97, 114]⟩ : ByteArray) ∈ aliveD := List.mem_of_getElem? (i := 2) rfl
theorem al_bytes : strOfNums (bytesD aliveD) = ⟨#[6, 0, 10, 97, 112, 112, 108, 101, 0, 10, 112, 101, 97, 99, 104, 6, 2, 114]⟩ := by decide +kernel
theorem bytesD_pos (D : List ByteArray) : 0 < (bytesD D).length := by
  unfold bytesD
  rw [List.length_append, encV, encI_length]
  have := (groups_bd (foldZ (D.length : Int)).toNat).1
  omega
set_option maxRecDepth 100000 in
set_option maxHeartbeats 4000000 in
theorem alive_any (w : World) : Calls Try.prog 9 #[] w fun e w' => e = .returned (.bool true) ∧ Below w.heap.size w w' := by
  obtain ⟨W1, hW1⟩ : ∃ W1, W1 = w.alloc (.cells #[.string ⟨#[112, 101, 97, 114]⟩, .string ⟨#[97, 112, 112, 108, 101]⟩, .string ⟨#[112, 101, 97, 114]⟩, .string ⟨#[112, 101, 97, 99, 104]⟩] 9) := ⟨_, rfl⟩
  have hb1 : Below w.heap.size w W1 := by rw [hW1]; exact bpush (Below.refl _ _) _
  have hr1 : Row W1 (some ⟨w.heap.size, 0, none⟩) (texts aliveL) := by rw [hW1]; exact Row.made rfl rfl
  have HW := Lib.hid hW1
  have HB := Lib.hid hb1
  have HR := Lib.hid hr1
  clear hW1 hb1 hr1
  go_enter Try.func9, Try.ntmps9
  go_wp2_with fail
  rw [← HW.out]
  refine (new_any _ 4 4 aliveL _ HR.out rfl (by omega) (by decide)).mono ?_
  rintro e w1 h
  rcases h with ⟨_, p, rfl, hp, hb⟩ | ⟨h, _⟩
  case inr => exact absurd ⟨al_fits, by rw [al_dict]; decide⟩ h
  rw [al_dict] at hp
  have HP := Lib.hid hp
  have HB2 := Lib.hid (bthen HB.out hb)
  clear hp hb
  go_wp2_with fail
  refine (find_any p aliveD _ _ HP.out (by decide) al_rise true ⟨fun _ => al_mem, fun _ => rfl⟩).mono ?_
  rintro e w2 ⟨rfl, rfl⟩
  rw [al_upto1]
  go_wp2_with fail
  refine (dtext_any p aliveD 1 _ HP.out (by decide) (by decide) ⟨#[112, 101, 97, 99, 104]⟩ rfl).mono ?_
  rintro e w2 ⟨rfl, rfl⟩
  go_wp2_with fail
  refine (len_any p aliveD _ HP.out).mono ?_
  have e3 : aliveD.length = 3 := rfl
  rw [e3]
  rintro e w2 ⟨rfl, rfl⟩
  clear e3
  go_wp2_with fail
  refine (upto_any p aliveD _ _ HP.out (by decide) al_rise).mono ?_
  rw [al_upto2]
  rintro e w2 ⟨rfl, rfl⟩
  go_wp2_with fail
  refine (bytes_any p aliveD _ HP.out (by decide) (by decide +kernel)).mono ?_
  rintro e w3 ⟨A, c, rfl, hrow, _, _, hb⟩
  obtain ⟨b, off, rfl⟩ := hrow.head (bytesD_pos _)
  have hcv := conv_q (c := c) (n := (bytesD aliveD).length) hrow rfl al_bytes.symm
  have HB3 := Lib.hid (bthen HB2.out hb)
  clear hrow hb
  go_wp2_with fail
  go_ret
  exact ⟨rfl, HB3.out⟩
set_option maxRecDepth 100000 in
set_option maxHeartbeats 4000000 in
theorem sametexts_any (A B : Option Addr) (n c m d : Nat) (L M : List ByteArray) (w : World) (hA : Row w A (texts L)) (hB : Row w B (texts M)) (hn : n = L.length) (hm : m = M.length) (hn2 : n ≤ 9223372036854775807) (hm2 : m ≤ 9223372036854775807) (r : Bool) (hr : r = true ↔ L = M) :
    Calls Try.prog 12 #[.slice A n c, .slice B m d] w fun e w' => e = .returned (.bool r) ∧ Below w.heap.size w w' := by
  have HA := Lib.hid hA
  have HB := Lib.hid hB
  have HN := Lib.hid hn
  have HM := Lib.hid hm
  have HR := Lib.hid hr
  clear hA hB hn hm hr
  by_cases hnm : n = m
  · subst hnm
    go_enter Try.func12, Try.ntmps12
    go_wp2_with fail
    go_loopw [5] (fun i wr => ∃ k : Nat, k ≤ n ∧ i = .int .i64 k ∧ Hid (L.take k = M.take k) ∧ Hid (Below w.heap.size w wr)) (fun i _ => n - (intOf i).toNat)
    case atStart => exact ⟨0, Nat.zero_le _, rfl, Lib.hid (by simp), Lib.hid (Below.refl _ _)⟩
    case round =>
      obtain ⟨k, hk, rfl, HK, HBW⟩ := hrel
      by_cases hlt : k < n
      · have hkz : k < L.length := by have := HN.out; omega
        have hkm : k < M.length := by have := HM.out; omega
        have hki : (k : Int) < (n : Int) := by omega
        have hk0 : (0 : Int) ≤ (k : Int) := by omega
        obtain ⟨b1, o1, hA1, c1⟩ := text_cell (HA.out.keep (Nat.le_refl _) HBW.out) hkz
        obtain ⟨b2, o2, hA2, c2⟩ := text_cell (HB.out.keep (Nat.le_refl _) HBW.out) hkm
        obtain ⟨s, hs⟩ : ∃ s, s = L[k] := ⟨_, rfl⟩
        obtain ⟨t, ht⟩ : ∃ t, t = M[k] := ⟨_, rfl⟩
        rw [← hs] at c1
        rw [← ht] at c2
        subst hA1 hA2
        have HST := Lib.hid (show s = t → L.take (k + 1) = M.take (k + 1) from fun e => by
          rw [take_snoc L k hkz, take_snoc M k hkm, HK.out, ← hs, ← ht, e])
        have HNE := Lib.hid (show s ≠ t → L ≠ M from fun h e => by
          apply h; rw [hs, ht]; subst e; rfl)
        clear hs ht
        by_cases hst : s = t
        · have HK2 := Lib.hid (HST.out hst)
          subst hst
          clear hlt
          go_wp2_with fail
          go_quiet (fail)
          go_wp2_with fail
          go_roundw
          case rel => exact ⟨k + 1, by omega, by go_num, HK2, Lib.hid (below_drewN HBW.out _)⟩
          case measure => simp [intOf]; omega
        · obtain rfl : r = false := by
            cases r with
            | false => rfl
            | true => exact absurd (HR.out.1 rfl) (HNE.out hst)
          have hne := str_ne hst
          clear hlt hst
          go_wp2_with fail
          go_quiet (fail)
          go_wp2_with fail
          go_ret
          exact ⟨rfl, below_drewN HBW.out _⟩
      · have hge : ¬ (k : Int) < (n : Int) := by omega
        obtain rfl : r = true := HR.out.2 (by
          have := HK.out
          rw [List.take_of_length_le (by have := HN.out; omega), List.take_of_length_le (by have := HM.out; omega)] at this
          exact this)
        clear hlt
        go_wp2_with fail
        go_ret
        exact ⟨rfl, HBW.out⟩
  · obtain rfl : r = false := by
      cases r with
      | false => rfl
      | true => have := HR.out.1 rfl; have h1 := HN.out; have h2 := HM.out; rw [this] at h1; omega
    have d1 : ((n : Int) == (m : Int)) = false := by rw [beq_eq_false_iff_ne]; omega
    have d2 : ((n : Int) != (m : Int)) = true := by rw [bne, d1]; rfl
    clear hnm
    go_enter Try.func12, Try.ntmps12
    go_wp2_with fail
    go_ret
    exact ⟨rfl, Below.refl _ _⟩
end Go.Proofs.Ytgegmbkjkiifaaa
