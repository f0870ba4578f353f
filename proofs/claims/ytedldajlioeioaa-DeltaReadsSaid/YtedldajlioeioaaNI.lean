/- nibble.Unpack, and whether two lists are one. -/
import Derived.Test.YtedldajlioeioaaNH
import Derived.Deep.QuietTactic
import Derived.BigQuiet
namespace Go.Proofs.Ytedldajlioeioaa
open Go.RowKit
set_option linter.unusedSimpArgs false
/-- The numbers that bytes have, as many as are asked for. -/
def unp (bs : List Int) (W m : Nat) : List Nat := (List.range m).map (fun j => numF (bitB bs) (j * W) W)
def unpC (bs : List Int) (W m k : Nat) : Array Value := ((List.range m).map (fun j => Value.int .u64 (if j < k then numF (bitB bs) (j * W) W else 0 : Nat))).toArray
theorem unpC_zero (bs : List Int) (W m : Nat) : madeCells #[.int .u64 0] m = unpC bs W m 0 := by
  apply Array.ext'
  rw [toList_madeCells_one]
  apply List.ext_getElem
  · simp [unpC]
  · intro i h1 h2
    simp [unpC]
theorem unpC_all (bs : List Int) (W m : Nat) : unpC bs W m m = (u64s (unp bs W m)).toArray := by
  unfold unpC u64s unp
  rw [List.map_map]
  congr 1
  apply List.map_congr_left
  intro j hj
  rw [List.mem_range] at hj
  simp [hj]
theorem unpC_set {bs : List Int} {W m k : Nat} (_h : k < m) : (unpC bs W m k).setIfInBounds k (.int .u64 (numF (bitB bs) (k * W) W : Nat)) = unpC bs W m (k + 1) := by
  apply Array.ext
  · simp [unpC]
  · intro i h1 h2
    have hi : i < m := by simpa [unpC] using h2
    rw [Array.getElem_setIfInBounds (by simpa [unpC] using hi)]
    by_cases e : k = i
    · subst e; simp [unpC]
    · rw [if_neg e]
      simp only [unpC, List.getElem_toArray, List.getElem_map, List.getElem_range]
      congr 2
      by_cases hk : i < k
      · rw [if_pos hk, if_pos (by omega)]
      · rw [if_neg hk, if_neg (by omega)]
/-- What unpacking answers. -/
def Unpacked (w : World) (xs : List Nat) (e : Ending) (w' : World) : Prop :=
  ∃ g, e = .returned (.tuple #[.slice (some ⟨g, 0, none⟩) xs.length xs.length, .int .i64 0]) ∧ Row w' (some ⟨g, 0, none⟩) (u64s xs) ∧ Below w.heap.size w w'
theorem unp_length (bs : List Int) (W m : Nat) : (unp bs W m).length = m := by simp [unp]
theorem unp_small (bs : List Int) (W m : Nat) (hW : W ≤ 64) : small (unp bs W m) := by
  intro x hx
  obtain ⟨j, _, rfl⟩ := List.mem_map.1 hx
  have h1 := numF_lt (bitB_le bs) (j * W) W
  have h2 : 2 ^ W ≤ 2 ^ 64 := Nat.pow_le_pow_right (by omega) hW
  omega
set_option maxRecDepth 100000 in
set_option maxHeartbeats 2000000 in
theorem unpack_good (A : Option Addr) (n c : Nat) (bs : List Int) (m W : Nat) (w : World) (hA : Row w A (bs.map (Value.int .u8))) (hz : n = bs.length) (hb : bytes bs) (hn : n ≤ 1000000) (hm : m ≤ 65536) (hW : W ≤ 64)
    (hs : n = sizeN m W) (hp : numF (bitB bs) (m * W) (8 * n - m * W) = 0) :
    Calls Try.prog 44 #[.slice A n c, .int .i64 (m : Nat), .int .i64 (W : Nat)] w (Unpacked w (unp bs W m)) := by
  have hSi : ((m : Int) * (W : Int) + 7) / 8 = (n : Int) := by rw [hs]; unfold sizeN; rw [Int.natCast_ediv, Int.natCast_add, Int.natCast_mul]; rfl
  have hmW : m * W ≤ 65536 * 64 := Nat.mul_le_mul hm hW
  have h8 : m * W ≤ 8 * n ∧ 8 * n - m * W ≤ 7 := by rw [hs]; unfold sizeN; omega
  obtain ⟨h8, h7⟩ := h8
  have hmi : (m : Int) * (W : Int) = ((m * W : Nat) : Int) := (Int.natCast_mul _ _).symm
  have hq0 : (0 : Int) ≤ (m : Int) * (W : Int) := by rw [hmi]; omega
  have hq1 : (m : Int) * (W : Int) ≤ (n : Int) * 8 := by rw [hmi]; omega
  have hsub : ((n : Int) * 8 - (m : Int) * (W : Int)) = ((8 * n - m * W : Nat) : Int) := by rw [hmi]; omega
  have HZ := Lib.hid hz
  have HB := Lib.hid hb
  have HP := Lib.hid hp
  have HSI := Lib.hid hSi
  have HMI := Lib.hid hmi
  have HSUB := Lib.hid hsub
  have H8 := Lib.hid (And.intro h8 h7)
  have HA := Lib.hid hA
  have hmk := fun V => run_make_row' (P := Try.prog) 34 36 (.int .u64 0) 8 Try.underlying34 Try.info36 rfl .i64 .i64 m (by omega) (by omega) V
  clear hz hb hs hp hSi hmi hsub hmW h8 h7 hA
  have hm0 : (m : Int) ≤ 65536 := by omega
  go_enter Try.func44, Try.ntmps44
  go_wp2_with fail
  refine (size_good _ _ _ (by omega) hm0 (by omega) (by omega)).mono ?_
  rintro e w1 ⟨rfl, rfl⟩
  rw [HSI.out]
  go_wp2_with fail
  rw [HMI.out]
  rw [show (n : Int) * 8 - ((m * W : Nat) : Int) = ((8 * n - m * W : Nat) : Int) from by have := H8.out; omega]
  refine (nnumber_any A n c bs (m * W) (8 * n - m * W) _ HA.out HZ.out HB.out hn (by have := H8.out; omega) (by have := H8.out; omega)).mono ?_
  rintro e w1 ⟨rfl, rfl⟩
  rw [HP.out]
  go_wp2_with fail
  obtain ⟨B, hB⟩ : ∃ B, B = w.heap.size := ⟨_, rfl⟩
  have hst : Blk (w.alloc (Obj.cells (madeCells #[Value.int IntKind.u64 0] m) 36)) w.heap.size 36 (unpC bs W m 0) := by rw [← unpC_zero]; exact Blk.new w 36 _
  have hbl : Below w.heap.size w (w.alloc (Obj.cells (madeCells #[Value.int IntKind.u64 0] m) 36)) := bpush (Below.refl _ _) _
  rw [← hB] at hst hbl ⊢
  have HST := Lib.hid hst
  have HBL := Lib.hid hbl
  generalize w.alloc (Obj.cells (madeCells #[Value.int IntKind.u64 0] m) 36) = w3 at HST HBL ⊢
  have HBB := Lib.hid hB
  clear hB hst hbl hmk hq0 hq1 HSUB HSI HMI HP
  go_loopw [11, 42] (fun _ i wr => ∃ k : Nat, k ≤ m ∧ i = .int .i64 k ∧ Hid (Blk wr B 36 (unpC bs W m k)) ∧ Hid (Below B w wr)) (fun _ i _ => m - (intOf i).toNat)
  case atStart => exact ⟨0, Nat.zero_le _, rfl, HST, HBL⟩
  case round =>
    obtain ⟨k, hk, rfl, HK, HBW⟩ := hrel
    clear HST HBL
    by_cases hlt : k < m
    · have hki : (k : Int) * (W : Int) = ((k * W : Nat) : Int) := (Int.natCast_mul _ _).symm
      have hkm : k * W + W ≤ m * W := by rw [← Nat.succ_mul]; exact Nat.mul_le_mul_right _ hlt
      have hk8 : k * W + W ≤ 8 * n := by have := H8.out; omega
      have hq0 : (0 : Int) ≤ (k : Int) * (W : Int) := by rw [hki]; omega
      have hq1 : (k : Int) * (W : Int) ≤ 8000000 := by rw [hki]; omega
      have HKI := Lib.hid hki
      have HK8 := Lib.hid hk8
      have hcell : wr.cell? ⟨B, k, none⟩ = some (.int .u64 0) := by rw [HK.out.cell]; simp [unpC, hlt]
      have hfr := HK.out.frozen k
      obtain ⟨V, hV⟩ : ∃ V, V = numF (bitB bs) (k * W) W := ⟨_, rfl⟩
      have HV := Lib.hid hV
      clear hki hkm hk8 hV
      go_wp2_with fail
      rw [HKI.out]
      refine (nnumber_any A n c bs (k * W) W _ (HA.out.keep (Nat.le_of_eq HBB.out.symm) HBW.out) HZ.out HB.out hn hW HK8.out).mono ?_
      rintro e w4 ⟨rfl, rfl⟩
      rw [← HV.out]
      go_wp2_with fail
      go_roundw
      case rel =>
        refine ⟨k + 1, by omega, by go_num, Lib.hid ?_, Lib.hid (HBW.out.setCell (p := ⟨B, k, none⟩) (Nat.le_refl _) _)⟩
        have := HK.out.set_ k (.int .u64 (V : Nat))
        rw [HV.out, unpC_set hlt, ← HV.out] at this
        exact this
      case measure => simp [intOf]; omega
    · have hkm : k = m := by omega
      go_wp2_with fail
      go_ret2
      refine ⟨B, ?_, ?_, by rw [← HBB.out]; exact HBW.out⟩
      · rw [unp_length]; rfl
      · have h := HK.out
        rw [hkm, unpC_all] at h
        exact .inr ⟨B, 0, rfl, fun j u hu => by rw [Nat.zero_add, h.cell]; simpa using hu⟩
set_option maxRecDepth 100000 in
set_option maxHeartbeats 1000000 in
theorem unpack_bad (A : Option Addr) (n c : Nat) (m W : Int) (w : World) (h : ¬ okSize m W) :
    Calls Try.prog 44 #[.slice A n c, .int .i64 m, .int .i64 W] w fun e w' => e = .returned (.tuple #[.slice none 0 0, .int .i64 1]) ∧ w = w' := by
  go_enter Try.func44, Try.ntmps44
  go_wp2_with fail
  refine (size_bad _ _ _ h).mono ?_
  rintro e w1 ⟨rfl, rfl⟩
  clear h
  go_wp2
  go_ret2
  exact ⟨rfl, rfl⟩
set_option maxRecDepth 100000 in
set_option maxHeartbeats 2000000 in
theorem unpack_wrong (A : Option Addr) (n c : Nat) (bs : List Int) (m W : Nat) (w : World) (hA : Row w A (bs.map (Value.int .u8))) (hz : n = bs.length) (hb : bytes bs) (hn : n ≤ 1000000) (hm : m ≤ 65536) (hW : W ≤ 64)
    (hs : ¬ (n = sizeN m W ∧ numF (bitB bs) (m * W) (8 * n - m * W) = 0)) :
    Calls Try.prog 44 #[.slice A n c, .int .i64 (m : Nat), .int .i64 (W : Nat)] w fun e w' => e = .returned (.tuple #[.slice none 0 0, .int .i64 71]) ∧ w = w' := by
  obtain ⟨S, hS⟩ : ∃ S, S = sizeN m W := ⟨_, rfl⟩
  rw [← hS] at hs
  have hSi : ((m : Int) * (W : Int) + 7) / 8 = (S : Int) := by rw [hS]; unfold sizeN; rw [Int.natCast_ediv, Int.natCast_add, Int.natCast_mul]; rfl
  have hmW : m * W ≤ 65536 * 64 := Nat.mul_le_mul hm hW
  have h8 : m * W ≤ 8 * S ∧ 8 * S - m * W ≤ 7 := by rw [hS]; unfold sizeN; omega
  obtain ⟨h8, h7⟩ := h8
  have hmi : (m : Int) * (W : Int) = ((m * W : Nat) : Int) := (Int.natCast_mul _ _).symm
  have HZ := Lib.hid hz
  have HB := Lib.hid hb
  have HSI := Lib.hid hSi
  have HMI := Lib.hid hmi
  have HA := Lib.hid hA
  have H8 := Lib.hid (And.intro h8 h7)
  have hm0 : (m : Int) ≤ 65536 := by omega
  clear hz hb hSi hmW hA hS
  by_cases hnS : n = S
  · subst hnS
    have hp : numF (bitB bs) (m * W) (8 * n - m * W) ≠ 0 := fun h => hs ⟨rfl, h⟩
    have hq0 : (0 : Int) ≤ (m : Int) * (W : Int) := by rw [hmi]; omega
    have hq1 : (m : Int) * (W : Int) ≤ (n : Int) * 8 := by rw [hmi]; omega
    obtain ⟨V, hV⟩ : ∃ V, V = numF (bitB bs) (m * W) (8 * n - m * W) := ⟨_, rfl⟩
    rw [← hV] at hp
    have hVb : ((V : Int) != 0) = true := by simp; exact hp
    have HV := Lib.hid hV
    clear hs hp hmi h8 h7 hV
    go_enter Try.func44, Try.ntmps44
    go_wp2_with fail
    refine (size_good _ _ _ (by omega) hm0 (by omega) (by omega)).mono ?_
    rintro e w1 ⟨rfl, rfl⟩
    rw [HSI.out]
    go_wp2_with fail
    rw [HMI.out]
    rw [show (n : Int) * 8 - ((m * W : Nat) : Int) = ((8 * n - m * W : Nat) : Int) from by have := H8.out; omega]
    refine (nnumber_any A n c bs (m * W) (8 * n - m * W) _ HA.out HZ.out HB.out hn (by have := H8.out; omega) (by have := H8.out; omega)).mono ?_
    rintro e w1 ⟨rfl, rfl⟩
    rw [← HV.out]
    go_wp2
    go_ret2
    exact ⟨rfl, rfl⟩
  · have hne : ((n : Int) != (S : Int)) = true := by simp; omega
    have hne2 : (n != S) = true := by simp; omega
    clear hs hmi h8 h7 hnS
    go_enter Try.func44, Try.ntmps44
    go_wp2_with fail
    refine (size_good _ _ _ (by omega) hm0 (by omega) (by omega)).mono ?_
    rintro e w1 ⟨rfl, rfl⟩
    rw [HSI.out]
    go_wp2
    go_ret2
    exact ⟨rfl, rfl⟩
end Go.Proofs.Ytedldajlioeioaa
