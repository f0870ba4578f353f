/- Whether two lists of texts are one; two rows of one key (the document's). -/
import Derived.Test.YtkfcpmmiimpkbaaMQ
namespace Go.Proofs.Ytkfcpmmiimpkbaa
open Go.RowKit
set_option linter.unusedSimpArgs false
set_option linter.unusedVariables false
set_option maxRecDepth 100000 in
set_option maxHeartbeats 4000000 in
theorem sametexts_any (A B : Option Addr) (n c m d : Nat) (L M : List ByteArray) (w : World) (hA : Row w A (texts L)) (hB : Row w B (texts M)) (hn : n = L.length) (hm : m = M.length) (hn2 : n ≤ 9223372036854775807) (hm2 : m ≤ 9223372036854775807) (r : Bool) (hr : r = true ↔ L = M) :
    Calls Try.prog 13 #[.slice A n c, .slice B m d] w fun e w' => e = .returned (.bool r) ∧ Below w.heap.size w w' := by
  have HA := Lib.hid hA
  have HB := Lib.hid hB
  have HN := Lib.hid hn
  have HM := Lib.hid hm
  have HR := Lib.hid hr
  clear hA hB hn hm hr
  by_cases hnm : n = m
  · subst hnm
    go_enter Try.func13, Try.ntmps13
    go_wp2_with fail
    go_loopw [5] (fun i wr => ∃ k : Nat, k ≤ n ∧ i = .int .i64 k ∧ Hid (L.take k = M.take k) ∧ Hid (Below w.heap.size w wr)) (fun i _ => n - (intOf i).toNat)
    case atStart => exact ⟨0, Nat.zero_le _, rfl, Lib.hid (by simp), Lib.hid (Below.refl _ _)⟩
    case round =>
      obtain ⟨k, hk, rfl, HK, HBW⟩ := hrel
      by_cases hlt : k < n
      · have hkz : k < L.length := by have := HN.out; omega
        have hkm : k < M.length := by have := HM.out; omega
        have hki : (k : Int) < (n : Int) := by omega
        have hk0 : (0 : Int) ≤ (k : Int) := by omega
        obtain ⟨b1, o1, hA1, c1⟩ := text_cell (HA.out.keep (Nat.le_refl _) HBW.out) hkz
        obtain ⟨b2, o2, hA2, c2⟩ := text_cell (HB.out.keep (Nat.le_refl _) HBW.out) hkm
        obtain ⟨s, hs⟩ : ∃ s, s = L[k] := ⟨_, rfl⟩
        obtain ⟨t, ht⟩ : ∃ t, t = M[k] := ⟨_, rfl⟩
        rw [← hs] at c1
        rw [← ht] at c2
        subst hA1 hA2
        have HST := Lib.hid (show s = t → L.take (k + 1) = M.take (k + 1) from fun e => by
          rw [take_snoc L k hkz, take_snoc M k hkm, HK.out, ← hs, ← ht, e])
        have HNE := Lib.hid (show s ≠ t → L ≠ M from fun h e => by
          apply h; rw [hs, ht]; subst e; rfl)
        clear hs ht
        by_cases hst : s = t
        · have HK2 := Lib.hid (HST.out hst)
          subst hst
          clear hlt
          go_wp2_with fail
          go_quiet (fail)
          go_wp2_with fail
          go_roundw
          case rel => exact ⟨k + 1, by omega, by go_num, HK2, Lib.hid (below_drewN HBW.out _)⟩
          case measure => simp [intOf]; omega
        · obtain rfl : r = false := by
            cases r with
            | false => rfl
            | true => exact absurd (HR.out.1 rfl) (HNE.out hst)
          have hne := str_ne hst
          clear hlt hst
          go_wp2_with fail
          go_quiet (fail)
          go_wp2_with fail
          go_ret
          exact ⟨rfl, below_drewN HBW.out _⟩
      · have hge : ¬ (k : Int) < (n : Int) := by omega
        obtain rfl : r = true := HR.out.2 (by
          have := HK.out
          rw [List.take_of_length_le (by have := HN.out; omega), List.take_of_length_le (by have := HM.out; omega)] at this
          exact this)
        clear hlt
        go_wp2_with fail
        go_ret
        exact ⟨rfl, HBW.out⟩
  · obtain rfl : r = false := by
      cases r with
      | false => rfl
      | true => have := HR.out.1 rfl; have h1 := HN.out; have h2 := HM.out; rw [this] at h1; omega
    have d1 : ((n : Int) == (m : Int)) = false := by rw [beq_eq_false_iff_ne]; omega
    have d2 : ((n : Int) != (m : Int)) = true := by rw [bne, d1]; rfl
    clear hnm
    go_enter Try.func13, Try.ntmps13
    go_wp2_with fail
    go_ret
    exact ⟨rfl, Below.refl _ _⟩
set_option maxRecDepth 100000 in
set_option maxHeartbeats 4000000 in
theorem onekey_any (t u k j : Int) (A B G H : Option Addr) (n c m d gn gc hn' hc' : Nat) (L M : List ByteArray) (w : World) (hA : Row w A (texts L)) (hB : Row w B (texts M)) (hn : n = L.length) (hm : m = M.length) (hn2 : n ≤ 9223372036854775807) (hm2 : m ≤ 9223372036854775807) (r : Bool) (hr : r = true ↔ L = M ∧ t = u) :
    Calls Try.prog 38 #[.agg #[.int .i64 t, .slice A n c, .int .i64 k, .slice G gn gc], .agg #[.int .i64 u, .slice B m d, .int .i64 j, .slice H hn' hc']] w fun e w' => e = .returned (.bool r) ∧ Below w.heap.size w w' := by
  obtain ⟨q, hq⟩ : ∃ q : Bool, q = true ↔ L = M := by
    by_cases h : L = M
    · exact ⟨true, by simp [h]⟩
    · exact ⟨false, by simp [h]⟩
  obtain ⟨W1, hW1⟩ : ∃ W1, W1 = (w.alloc (.cells #[.int .i64 t, .slice A n c, .int .i64 k, .slice G gn gc] 45)).alloc (.cells #[.int .i64 u, .slice B m d, .int .i64 j, .slice H hn' hc'] 45) := ⟨_, rfl⟩
  have hb1 : Below w.heap.size w W1 := by rw [hW1]; exact bpush (bpush (Below.refl _ _) _) _
  have HB1 := Lib.hid hb1
  have HA := Lib.hid (hA.keep (Nat.le_refl _) hb1)
  have HB := Lib.hid (hB.keep (Nat.le_refl _) hb1)
  have s0 : W1.cell? ⟨w.heap.size, 0, none⟩ = some (.int .i64 t) := by rw [hW1]; exact cell_on (bpush (Below.refl _ _) _) (cell_made rfl rfl)
  have s1 : W1.cell? ⟨w.heap.size, 1, none⟩ = some (.slice A n c) := by rw [hW1]; exact cell_on (bpush (Below.refl _ _) _) (cell_made rfl rfl)
  have c0 : W1.cell? ⟨w.heap.size + 1, 0, none⟩ = some (.int .i64 u) := by rw [hW1]; exact cell_made (by simp) rfl
  have c1 : W1.cell? ⟨w.heap.size + 1, 1, none⟩ = some (.slice B m d) := by rw [hW1]; exact cell_made (by simp) rfl
  have HW1 := Lib.hid hW1
  have HN := Lib.hid hn
  have HM := Lib.hid hm
  have HR := Lib.hid hr
  have HQ := Lib.hid hq
  clear hA hB hn hm hr hq hW1 hb1
  by_cases htu : t = u
  · have HE := Lib.hid (show q = r from by
      have a := HR.out; have b := HQ.out
      cases q <;> cases r <;> simp_all)
    subst htu
    go_enter Try.func38, Try.ntmps38
    go_wp2_with fail
    rw [← HW1.out]
    clear HW1
    (go_at_call 13; refine (sametexts_any A B n c m d L M _ HA.out HB.out HN.out HM.out hn2 hm2 q HQ.out).mono ?_; rintro e w7 ⟨rfl, hb⟩)
    have q0 := cell_on hb s0
    have q1 := cell_on hb c0
    have HBB := Lib.hid (bthen HB1.out hb)
    clear hb s0 s1 c0 c1
    rw [HE.out]
    clear HE HQ
    cases r with
    | true =>
      go_wp2_with fail
      go_ret
      exact ⟨rfl, HBB.out⟩
    | false =>
      go_wp2_with fail
      go_ret
      exact ⟨rfl, HBB.out⟩
  · obtain rfl : r = false := by
      cases r with
      | false => rfl
      | true => exact absurd (HR.out.1 rfl).2 htu
    go_enter Try.func38, Try.ntmps38
    go_wp2_with fail
    rw [← HW1.out]
    clear HW1
    (go_at_call 13; refine (sametexts_any A B n c m d L M _ HA.out HB.out HN.out HM.out hn2 hm2 q HQ.out).mono ?_; rintro e w7 ⟨rfl, hb⟩)
    have q0 := cell_on hb s0
    have q1 := cell_on hb c0
    have HBB := Lib.hid (bthen HB1.out hb)
    clear hb s0 s1 c0 c1
    cases q with
    | true =>
      go_wp2_with fail
      go_ret
      exact ⟨by simp [htu], HBB.out⟩
    | false =>
      go_wp2_with fail
      go_ret
      exact ⟨rfl, HBB.out⟩
end Go.Proofs.Ytkfcpmmiimpkbaa
