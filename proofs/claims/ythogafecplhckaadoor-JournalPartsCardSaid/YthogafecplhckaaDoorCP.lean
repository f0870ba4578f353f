/- The sum of bytes. -/
import Derived.Test.YthogafecplhckaaDoorGZ
import Derived.Laws.BitsAllLaws
import Derived.IntWalk
namespace Go.Proofs.YthogafecplhckaaDoor
open Go.RowKit
set_option linter.unusedSimpArgs false
set_option linter.unusedVariables false
def tabN : List Nat := [0, 274646895, 549293790, 820201905, 1098587580, 1361435347, 1640403810, 1905808397, 2197175160, 2460548119, 2722870694, 2987750089, 3280807620, 3553878443, 3811616794, 4084100981]
/-- The table lies where the program's text lays it. -/
def Tab (w : World) : Prop := ∀ i, i < 16 → w.cell? ⟨0, i, none⟩ = some (.int .u32 ((tabN.getD i 0 : Nat) : Int))
theorem Tab.lt {w : World} (h : Tab w) : 0 < w.heap.size := lt_of_cell (h 0 (by omega))
theorem Tab.keep {w w' : World} (h : Tab w) (hb : Below w.heap.size w w') : Tab w' := fun i hi => (hb.cell (p := ⟨0, i, none⟩) h.lt).trans (h i hi)
def stepN (s h : Nat) : Nat := (s / 16) ^^^ tabN.getD ((s % 256 ^^^ h) &&& 15) 0
def crcN : Nat → List Int → Nat
  | s, [] => s
  | s, b :: bs => crcN (stepN (stepN s b.toNat) (b.toNat / 16)) bs
def sumI (bs : List Int) : Int := ((4294967295 - crcN 4294967295 bs : Nat) : Int)
theorem tab_lt (i : Nat) : tabN.getD i 0 < 4294967296 := by
  rcases Nat.lt_or_ge i 16 with h | h
  · have : ∀ i, i < 16 → tabN.getD i 0 < 4294967296 := by decide
    exact this i h
  · rw [List.getD_eq_getElem?_getD, List.getElem?_eq_none (by simpa [tabN] using h)]; decide
theorem step_lt {s h : Nat} (hs : s < 4294967296) : stepN s h < 4294967296 := by
  unfold stepN
  exact Nat.xor_lt_two_pow (n := 32) (by omega) (tab_lt _)
theorem crc_snoc : ∀ (bs : List Int) (s : Nat) (b : Int), crcN s (bs ++ [b]) = stepN (stepN (crcN s bs) b.toNat) (b.toNat / 16) := by
  intro bs
  induction bs with
  | nil => intro s b; rfl
  | cons c bs ih => intro s b; rw [List.cons_append, crcN, ih, crcN]
theorem crc_lt : ∀ (bs : List Int) (s : Nat), s < 4294967296 → crcN s bs < 4294967296 := by
  intro bs
  induction bs with
  | nil => intro s h; exact h
  | cons c bs ih => intro s h; rw [crcN]; exact ih _ (step_lt (step_lt h))
theorem u32_flip {s : Nat} (h : s < 4294967296) : 4294967295 ^^^ s = 4294967295 - s := by
  have h1 := BitVec.toNat_not (x := BitVec.ofNat 32 s)
  have h2 : ~~~ (BitVec.ofNat 32 s) = BitVec.allOnes 32 ^^^ BitVec.ofNat 32 s := by rw [BitVec.allOnes_xor]
  rw [h2, BitVec.toNat_xor, BitVec.toNat_allOnes, BitVec.toNat_ofNat, Nat.mod_eq_of_lt (by simpa using h)] at h1
  simpa using h1
set_option maxRecDepth 100000 in
set_option maxHeartbeats 4000000 in
theorem sum_any (A : Option Addr) (n c : Nat) (bs : List Int) (w : World) (hT : Tab w) (hA : Row w A (bs.map (Value.int .u8))) (hz : n = bs.length) (hn : n ≤ 100000000) (hb : bytes bs) :
    Calls Tryd.prog 66 #[.slice A n c] w fun e w' => e = .returned (.int .u32 (sumI bs)) ∧ w = w' := by
  have HZ := Lib.hid hz
  have HA := Lib.hid hA
  have HT := Lib.hid hT
  have HBY := Lib.hid hb
  clear hz hA hT hb
  go_enter Tryd.func66, Tryd.ntmps66
  go_wp2_with fail
  go_loop [3, 9] (fun a i => ∃ (q r s : Nat), r ≤ 1 ∧ 2 * q + r ≤ 2 * n ∧ s < 4294967296 ∧ i = .int .i64 ((2 * q + r : Nat) : Int) ∧ a = .int .u32 (s : Int) ∧ Hid (r = 0 → s = crcN 4294967295 (bs.take q)) ∧ Hid (∀ h : q < bs.length, r = 1 → s = stepN (crcN 4294967295 (bs.take q)) bs[q].toNat)) (fun _ i => 2 * n - (intOf i).toNat)
  case atStart => exact ⟨0, 0, 4294967295, by omega, by omega, by omega, rfl, rfl, Lib.hid (fun _ => rfl), Lib.hid (fun _ h => by omega)⟩
  case round =>
    obtain ⟨q, r, s, hr, hqr, hs, rfl, rfl, HE, HO⟩ := hrel
    by_cases hlt : 2 * q + r < 2 * n
    · have hqz : q < bs.length := by have := HZ.out; omega
      obtain ⟨b, off, hA', c0⟩ := HA.out.cell hqz
      obtain ⟨x, hx⟩ : ∃ x : Nat, x = bs[q].toNat := ⟨_, rfl⟩
      have hxb := HBY.out bs[q] (List.getElem_mem hqz)
      have hx2 : bs[q] = (x : Int) := by rw [hx]; omega
      rw [hx2] at c0
      have hx9 : x < 256 := by omega
      have HX := Lib.hid hx
      subst hA'
      clear hx hx2 hxb
      obtain ⟨k, hk⟩ : ∃ k, k = 2 * q + r := ⟨_, rfl⟩
      rw [← hk] at hqr hlt ⊢
      have hk1 : (k : Int) < 2 * (n : Int) := by omega
      have hk0 : (0 : Int) ≤ (k : Int) := by omega
      have hd1 : (k : Int).tdiv 2 = (q : Int) := by rw [Int.tdiv_eq_ediv_of_nonneg (by omega)]; omega
      have hd2 : (k : Int) / 2 = (q : Int) := by omega
      have hm2 : (k : Int) % 2 = (r : Int) := by omega
      have hqn : (q : Int) < (n : Int) := by have := HZ.out; omega
      have hw2 : IntKind.i64.wrap (2 * (n : Int)) = 2 * (n : Int) := IntWalk.i64_in _ (by omega)
      have HK := Lib.hid hk
      clear hk
      rcases (show r = 0 ∨ r = 1 by omega) with rfl | rfl
      · have HE2 := Lib.hid (HE.out rfl)
        clear HE HO
        obtain ⟨z, hz⟩ : ∃ z, z = (s % 256 ^^^ x) &&& 15 := ⟨_, rfl⟩
        have hz16 : z < 16 := by rw [hz]; exact Nat.lt_of_le_of_lt Nat.and_le_right (by omega)
        obtain ⟨T, hTT⟩ : ∃ T, T = tabN.getD z 0 := ⟨_, rfl⟩
        have hT2 : T < 4294967296 := by rw [hTT]; exact tab_lt _
        have hcT := HT.out z hz16
        rw [← hTT] at hcT
        obtain ⟨s2, hs2⟩ : ∃ s2, s2 = s / 16 ^^^ T := ⟨_, rfl⟩
        have hs24 : s2 < 4294967296 := by rw [hs2]; exact Nat.xor_lt_two_pow (n := 32) (by omega) hT2
        have e1 : bits .xor .u8 ((s : Int) % 256) ((x : Nat) : Int) = ((s % 256 ^^^ x : Nat) : Int) := u8_xor_nat (s % 256) (x) (by omega) (by omega)
        have e2 : bits .and .u8 ((s % 256 ^^^ x : Nat) : Int) 15 = (z : Int) := by
          rw [hz]; exact u8_and_nat (s % 256 ^^^ x) 15 (Nat.xor_lt_two_pow (n := 8) (by omega) (by omega)) (by omega)
        have e3 : bits .xor .u32 ((s : Int) / 16) (T : Int) = (s2 : Int) := by
          rw [hs2]; exact u32_xor_nat (s / 16) T (by omega) hT2
        have hzz : (z : Int) < 16 := by omega
        have hz00 : (0 : Int) ≤ (z : Int) := by omega
        have HS2 := Lib.hid (show s2 = stepN s (x) by rw [hs2, hTT, hz]; rfl)
        clear hz hTT hs2
        obtain ⟨X1, hX1⟩ : ∃ X1 : Int, X1 = ((s % 256 ^^^ x : Nat) : Int) := ⟨_, rfl⟩
        rw [← hX1] at e1 e2
        clear hX1
        go_wp2_with fail
        go_round
        case rel => exact ⟨q, 1, s2, by omega, by have := HK.out; omega, hs24, by have := HK.out; simp; omega, rfl, Lib.hid (fun h => by omega), Lib.hid (fun _ _ => by rw [HS2.out, ← HX.out, HE2.out])⟩
        case measure => simp [intOf]; omega
      · have HO2 := Lib.hid (show s = stepN (crcN 4294967295 (bs.take q)) x by rw [HX.out]; exact HO.out hqz rfl)
        clear HE HO
        obtain ⟨h, hh⟩ : ∃ h, h = x / 16 := ⟨_, rfl⟩
        have e0 : (x : Int) / 16 = (h : Int) := by omega
        have e9 : (x : Int).fdiv (2 ^ min (Int.toNat 4) IntKind.u8.bits) = (h : Int) := by
          rw [show min (Int.toNat 4) IntKind.u8.bits = 4 by decide, Int.fdiv_eq_ediv_of_nonneg _ (by decide)]; omega
        have hh9 : h < 16 := by omega
        have HH := Lib.hid hh
        clear hh
        obtain ⟨z, hz⟩ : ∃ z, z = (s % 256 ^^^ h) &&& 15 := ⟨_, rfl⟩
        have hz16 : z < 16 := by rw [hz]; exact Nat.lt_of_le_of_lt Nat.and_le_right (by omega)
        obtain ⟨T, hTT⟩ : ∃ T, T = tabN.getD z 0 := ⟨_, rfl⟩
        have hT2 : T < 4294967296 := by rw [hTT]; exact tab_lt _
        have hcT := HT.out z hz16
        rw [← hTT] at hcT
        obtain ⟨s2, hs2⟩ : ∃ s2, s2 = s / 16 ^^^ T := ⟨_, rfl⟩
        have hs24 : s2 < 4294967296 := by rw [hs2]; exact Nat.xor_lt_two_pow (n := 32) (by omega) hT2
        have e1 : bits .xor .u8 ((s : Int) % 256) (h : Int) = ((s % 256 ^^^ h : Nat) : Int) := u8_xor_nat (s % 256) h (by omega) (by omega)
        have e2 : bits .and .u8 ((s % 256 ^^^ h : Nat) : Int) 15 = (z : Int) := by
          rw [hz]; exact u8_and_nat (s % 256 ^^^ h) 15 (Nat.xor_lt_two_pow (n := 8) (by omega) (by omega)) (by omega)
        have e3 : bits .xor .u32 ((s : Int) / 16) (T : Int) = (s2 : Int) := by
          rw [hs2]; exact u32_xor_nat (s / 16) T (by omega) hT2
        have hzz : (z : Int) < 16 := by omega
        have hz00 : (0 : Int) ≤ (z : Int) := by omega
        have HS2 := Lib.hid (show s2 = stepN s h by rw [hs2, hTT, hz]; rfl)
        clear hz hTT hs2
        obtain ⟨X1, hX1⟩ : ∃ X1 : Int, X1 = ((s % 256 ^^^ h : Nat) : Int) := ⟨_, rfl⟩
        rw [← hX1] at e1 e2
        clear hX1
        have hm3 : (k : Int) % 2 = 1 := hm2
        have hm4 : (k : Int).tmod 2 = 1 := by rw [Int.tmod_eq_emod_of_nonneg (by omega)]; exact hm2
        clear hm2
        go_wp2_with fail
        go_round
        case rel => exact ⟨q + 1, 0, s2, by omega, by have := HK.out; omega, hs24, by have := HK.out; simp; omega, rfl, Lib.hid (fun _ => by rw [take_snoc bs q hqz, crc_snoc, HS2.out, HO2.out, HH.out, HX.out]), Lib.hid (fun _ h => by omega)⟩
        case measure => simp [intOf]; omega
    · have hq : q = n := by omega
      have hr0 : r = 0 := by omega
      subst hr0
      have HE2 := Lib.hid (show s = crcN 4294967295 bs by rw [HE.out rfl, List.take_of_length_le (by have := HZ.out; omega)])
      obtain ⟨k, hk⟩ : ∃ k, k = 2 * q + 0 := ⟨_, rfl⟩
      rw [← hk] at hqr hlt ⊢
      have hk1 : ¬ (k : Int) < 2 * (n : Int) := by omega
      have hw2 : IntKind.i64.wrap (2 * (n : Int)) = 2 * (n : Int) := IntWalk.i64_in _ (by omega)
      have HF := Lib.hid (show bits .xor .u32 IntKind.u32.max (s : Int) = sumI bs by
        have h := u32_xor_nat 4294967295 s (by omega) hs
        show bits .xor .u32 ((4294967295 : Nat) : Int) (s : Int) = _
        rw [h, u32_flip hs, HE2.out]; rfl)
      clear hk hq HE HO HE2
      go_wp2_with fail
      go_ret
      exact ⟨by rw [HF.out]; rfl, rfl⟩
end Go.Proofs.YthogafecplhckaaDoor
