/- DeltaTells: its walk. -/
import Derived.Test.YtedldajlioeioaaPL
namespace Go.Proofs.Ytedldajlioeioaa
open Go.RowKit
set_option linter.unusedSimpArgs false
set_option linter.unusedVariables false
set_option maxRecDepth 100000 in
set_option maxHeartbeats 4000000 in
theorem tells_walk (A : Option Addr) (n c : Nat) (L : List Int) (w : World) (hA : Row w A (L.map (Value.int .i64))) (hz : n = L.length) (hL : ints L) (hn9 : n ≤ 9223372036854775807) :
    Calls Try.prog 3 #[.slice A n c] w fun e w' => e = .returned (.bool true) ∧ Below w.heap.size w w' := by
  have HA := Lib.hid hA
  have HZ := Lib.hid hz
  have HL := Lib.hid hL
  clear hA hz hL
  by_cases h2 : 300 < n
  · have hi : (300 : Int) < (n : Int) := by omega
    go_enter Try.func3, Try.ntmps3
    go_wp2_with fail
    refine (alive_any _).mono ?_
    rintro e w1 ⟨rfl, hb⟩
    go_wp2
    go_ret
    exact ⟨rfl, hb⟩
  have hi : (n : Int) ≤ 300 := by omega
  have hn3 : n ≤ 300 := by omega
  go_enter Try.func3, Try.ntmps3
  go_wp2_with fail
  refine (encode_any A n c L _ HA.out HZ.out (by omega) HL.out).mono ?_
  rintro e w1 ⟨A1, c1, rfl, hr1, hc1, hn1, hB1⟩
  obtain ⟨E, hE⟩ : ∃ E, E = encZ L := ⟨_, rfl⟩
  rw [← hE] at hr1 ⊢
  obtain ⟨q, hq⟩ : ∃ q, q = E.length := ⟨_, rfl⟩
  rw [← hq]
  have HE := Lib.hid hE
  have HQ := Lib.hid hq
  have HR1 := Lib.hid hr1
  have HB1 := Lib.hid hB1
  clear hE hq hr1 hn1 hB1 hc1
  go_wp2_with fail
  refine (rencode_any A n c L _ (HA.out.keep (Nat.le_refl _) HB1.out) HZ.out (by omega) HL.out).mono ?_
  rw [← HE.out]
  rintro e w2 ⟨A2, c2, rfl, hr2, hc2, hn2, hB2⟩
  rw [← HQ.out]
  have HR2 := Lib.hid hr2
  have HR12 := Lib.hid (HR1.out.keep (Nat.le_refl _) hB2)
  have HB2 := Lib.hid (bthen HB1.out hB2)
  clear hr2 hn2 hB2 hc2
  go_wp2_with fail
  go_loopw [7, 8] (fun s i wr => ∃ (k : Nat) (b : Bool), k ≤ n - 1 ∧ i = .int .i64 (k + 1 : Nat) ∧ s = .bool b ∧ Hid (b = true ↔ ∀ (j : Nat) (h : j + 1 < L.length), j < k → L[j] ≤ L[j + 1]) ∧ Hid (∃ m, wr = w2.drewN m)) (fun _ i _ => n - (intOf i).toNat)
  case atStart => exact ⟨0, true, Nat.zero_le _, rfl, rfl, Lib.hid ⟨fun _ j h h2 => by omega, fun _ => rfl⟩, Lib.hid ⟨0, rfl⟩⟩
  case round =>
    obtain ⟨k, s, hk, rfl, rfl, HS, HM⟩ := hrel
    obtain ⟨m, hm⟩ := HM.out
    obtain ⟨k1, hk1⟩ : ∃ k1, k1 = k + 1 := ⟨_, rfl⟩
    rw [← hk1]
    by_cases hlt : k1 < n
    · have hkz : k + 1 < L.length := by have := HZ.out; omega
      have hr0 := HA.out.keep (Nat.le_refl _) HB2.out
      obtain ⟨b, off, hA', c0⟩ := hr0.cell (i := k) (by omega)
      obtain ⟨b2, off2, hA2, c1⟩ := hr0.cell hkz
      rw [hA'] at hA2
      obtain ⟨rfl, rfl⟩ : b = b2 ∧ off = off2 := by cases hA2; exact ⟨rfl, rfl⟩
      obtain ⟨p, hp⟩ : ∃ p, L[k]? = some p := ⟨_, List.getElem?_eq_getElem (by omega)⟩
      obtain ⟨y, hy⟩ : ∃ y, L[k + 1]? = some y := ⟨_, List.getElem?_eq_getElem hkz⟩
      have ep : L[k] = p := Option.some.inj ((List.getElem?_eq_getElem (by omega)).symm.trans hp)
      have ey : L[k + 1] = y := Option.some.inj ((List.getElem?_eq_getElem hkz).symm.trans hy)
      rw [ep] at c0
      rw [ey, ← hk1] at c1
      have c3 : wr.cell? ⟨b, off + k, none⟩ = some (.int .i64 p) := by rw [hm]; simpa using c0
      have c4 : wr.cell? ⟨b, off + k1, none⟩ = some (.int .i64 y) := by rw [hm]; simpa using c1
      have HM2 := Lib.hid (fun q => ⟨m + q, by rw [hm, World.drewN_drewN]⟩ : ∀ q, ∃ m, wr.drewN q = w2.drewN m)
      have hk2 : (k1 : Int) < (n : Int) := by omega
      have hk0 : (0 : Int) ≤ (k1 : Int) := by omega
      have hkm : IntKind.i64.wrap ((k1 : Int) - 1) = (k : Int) := by rw [IntWalk.i64_in _ (by omega)]; omega
      have hks : (k : Int) < (n : Int) := by omega
      have HK1 := Lib.hid hk1
      have HNX := Lib.hid (show ∀ b' : Bool, b' = (s && decide (p ≤ y)) → (b' = true ↔ ∀ (j : Nat) (h : j + 1 < L.length), j < k + 1 → L[j]'(Nat.lt_of_succ_lt h) ≤ L[j + 1]'h) from fun b' hb' => by
        rw [hb', Bool.and_eq_true, decide_eq_true_iff, HS.out]
        constructor
        · rintro ⟨h1, h2⟩ j hj hjk
          rcases Nat.lt_or_ge j k with e | e
          · exact h1 j hj e
          · obtain rfl : j = k := by omega
            rw [ep, ey]; exact h2
        · intro h
          refine ⟨fun j hj hjk => h j hj (by omega), ?_⟩
          have := h k hkz (by omega)
          rw [ep, ey] at this; exact this)
      clear hr0 hp hy ep ey hk1 hA2 c0 c1 hm HM HS
      subst hA'
      cases s with
      | false =>
        go_wp2_with fail
        go_quiet (fail)
        go_wp2_with fail
        go_roundw
        case rel => exact ⟨k + 1, false, by have := HK1.out; omega, by rw [← HK1.out]; go_num, rfl, Lib.hid (HNX.out false (by simp)), Lib.hid (HM2.out _)⟩
        case measure => simp [intOf]; omega
      | true =>
        by_cases hpy : p ≤ y
        · have hd : decide (p ≤ y) = true := by simpa using hpy
          go_wp2_with fail
          go_quiet (fail)
          go_wp2_with fail
          go_roundw
          case rel => exact ⟨k + 1, true, by have := HK1.out; omega, by rw [← HK1.out]; go_num, by first | rfl | (simp; omega), Lib.hid (HNX.out true (by simp; omega)), Lib.hid (HM2.out _)⟩
          case measure => simp [intOf]; omega
        · have hd : decide (p ≤ y) = false := by simpa using hpy
          go_wp2_with fail
          go_quiet (fail)
          go_wp2_with fail
          go_roundw
          case rel => exact ⟨k + 1, false, by have := HK1.out; omega, by rw [← HK1.out]; go_num, by first | rfl | (simp; omega), Lib.hid (HNX.out false (by simp; omega)), Lib.hid (HM2.out _)⟩
          case measure => simp [intOf]; omega
    · have hge : ¬ (k1 : Int) < (n : Int) := by omega
      have HSR := Lib.hid (show s = risesZ L by
        rw [Bool.eq_iff_iff, HS.out, rises_iff]
        exact ⟨fun h j hj => h j hj (by have := HZ.out; omega), fun h j hj _ => h j hj⟩)
      have HBW := Lib.hid (show Below w2.heap.size w2 wr by rw [hm]; exact below_drewN (Below.refl _ _) _)
      clear hk1 hm HS HM
      go_wp2_with fail
      refine (alive_any _).mono ?_
      rintro e w7 ⟨rfl, hb⟩
      have hbb := bthen HBW.out hb
      obtain ⟨t, ht⟩ : ∃ s, s = strOfNums E := ⟨_, rfl⟩
      have v1 := conv_any (c := c1) (HR12.out.keep (Nat.le_refl _) hbb) HQ.out
      have v2 := conv_any (c := c2) (HR2.out.keep (Nat.le_refl _) hbb) HQ.out
      rw [← ht] at v1 v2
      have HB7 := Lib.hid (bthen HB2.out hbb)
      clear hb hbb ht
      go_wp2_with fail
      refine (sorted_any A n c L _ (HA.out.keep (Nat.le_refl _) HB7.out) HZ.out (by omega) s HSR.out).mono ?_
      rintro e w8 ⟨rfl, hq8⟩
      have HB8 := Lib.hid (show Below w.heap.size w w8 by obtain ⟨m, rfl⟩ := hq8; exact below_drewN HB7.out m)
      clear hq8 v1 v2
      go_wp2_with fail
      go_ret
      exact ⟨by cases s <;> first | rfl | simp, HB8.out⟩
end Go.Proofs.Ytedldajlioeioaa
