/- nibble.Pack's failures; nibble.number, nibble.At. -/
import Derived.Test.YtedldajlioeioaaNE
import Derived.Laws.BytesArg
namespace Go.Proofs.Ytedldajlioeioaa
open Go.RowKit
set_option linter.unusedSimpArgs false
set_option maxRecDepth 100000 in
set_option maxHeartbeats 1000000 in
theorem pack_wide (A : Option Addr) (n c : Nat) (L : List Nat) (W : Nat) (w : World) (hA : Row w A (u64s L)) (hn : n ≤ 65536) (hz : n = L.length) (hs : small L) (hW : W ≤ 64) (hw : W < widthN L) :
    Calls Try.prog 18 #[.slice A n c, .int .i64 (W : Nat)] w fun e w' => e = .returned (.tuple #[.slice none 0 0, .int .i64 71]) ∧ w = w' := by
  have HZ := Lib.hid hz
  have HSM := Lib.hid hs
  have HW := Lib.hid hw
  clear hz hs hw
  have hn0 : (n : Int) ≤ 65536 := by omega
  go_enter Try.func18, Try.ntmps18
  go_wp2_with fail
  refine (size_good _ _ _ (by omega) hn0 (by omega) (by omega)).mono ?_
  rintro e w1 ⟨rfl, rfl⟩
  obtain ⟨S, hS⟩ : ∃ S, S = ((n : Int) * (W : Int) + 7) / 8 := ⟨_, rfl⟩
  rw [← hS]
  clear hS
  go_wp2_with fail
  refine (width_any A n c L _ hA (by omega) HZ.out HSM.out).mono ?_
  rintro e w1 ⟨rfl, rfl⟩
  obtain ⟨V, hV⟩ : ∃ V, V = widthN L := ⟨_, rfl⟩
  have hVW : W < V := by have := HW.out; omega
  rw [← hV]
  clear hV
  go_wp2
  go_ret2
  exact ⟨rfl, rfl⟩
set_option maxRecDepth 100000 in
set_option maxHeartbeats 1000000 in
theorem pack_bad (A : Option Addr) (n c : Nat) (W : Int) (w : World) (h : ¬ okSize n W) :
    Calls Try.prog 18 #[.slice A n c, .int .i64 W] w fun e w' => e = .returned (.tuple #[.slice none 0 0, .int .i64 1]) ∧ w = w' := by
  go_enter Try.func18, Try.ntmps18
  go_wp2_with fail
  refine (size_bad _ _ _ h).mono ?_
  rintro e w1 ⟨rfl, rfl⟩
  clear h
  go_wp2
  go_ret2
  exact ⟨rfl, rfl⟩
theorem u64_or_low {a b i : Nat} (h : a < 2 ^ i) (hi : i < 64) (hb : b ≤ 1) : bits .or .u64 (a : Int) ((b * 2 ^ i : Nat) : Int) = ((a + b * 2 ^ i : Nat) : Int) := by
  have h1 : 2 ^ i ≤ 2 ^ 63 := Nat.pow_le_pow_right (by omega) (by omega)
  have h2 : b * 2 ^ i ≤ 1 * 2 ^ i := Nat.mul_le_mul_right _ hb
  rw [u64_or_nat _ _ (by omega) (by omega), Nat.or_comm, nat_join i _ _ (by simp) h, Nat.add_comm]
theorem byte_bit (x : Int) (r : Nat) (h0 : 0 ≤ x) (h1 : x ≤ 255) : bits .and .u8 (x / 2 ^ r) 1 = ((x.toNat / 2 ^ r % 2 : Nat) : Int) := by
  obtain ⟨y, rfl⟩ := Int.eq_ofNat_of_zero_le h0
  have e : ((y : Int) / 2 ^ r) = ((y / 2 ^ r : Nat) : Int) := by rw [Int.natCast_ediv, Int.natCast_pow]; rfl
  have h2 : y / 2 ^ r ≤ y := Nat.div_le_self _ _
  rw [e, show (1 : Int) = ((1 : Nat) : Int) from rfl, u8_and_nat _ _ (by omega) (by omega)]
  simp
set_option maxHeartbeats 1000000 in
theorem nnumber_any (A : Option Addr) (n c : Nat) (bs : List Int) (a W : Nat) (w : World) (hA : Row w A (bs.map (Value.int .u8))) (hz : n = bs.length) (hb : bytes bs) (hn : n ≤ 1000000) (hW : W ≤ 64) (haW : a + W ≤ 8 * n) :
    Calls Try.prog 51 #[.slice A n c, .int .i64 (a : Nat), .int .i64 (W : Nat)] w fun e w' => e = .returned (.int .u64 (numF (bitB bs) a W : Nat)) ∧ w = w' := by
  have HZ := Lib.hid hz
  have HB := Lib.hid hb
  clear hz hb
  go_enter Try.func51, Try.ntmps51
  go_wp2_with fail
  go_loop [7, 8, 10] (fun u _ i => ∃ k U : Nat, k ≤ W ∧ i = .int .i64 k ∧ u = .int .u64 U ∧ Hid (U = numF (bitB bs) a k)) (fun _ _ i => W - (intOf i).toNat)
  case atStart => exact ⟨0, 0, Nat.zero_le _, rfl, rfl, Lib.hid rfl⟩
  case round =>
    obtain ⟨k, U, hk, rfl, rfl, HU⟩ := hrel
    by_cases hlt : k < W
    · have hkz : (a + k) / 8 < bs.length := by have := HZ.out; omega
      have hqn : (a + k) / 8 < n := by omega
      obtain ⟨b, off, hA', hcell⟩ := hA.cell hkz
      obtain ⟨x, hx⟩ : ∃ x, x = bs[(a + k) / 8] := ⟨_, rfl⟩
      obtain ⟨x0, x1⟩ := HB.out x (by rw [hx]; exact List.getElem_mem _)
      rw [← hx] at hcell
      obtain ⟨y, hy⟩ : ∃ y, y = x.toNat / 2 ^ ((a + k) % 8) % 2 := ⟨_, rfl⟩
      have hab := byte_bit x ((a + k) % 8) x0 x1
      rw [← hy] at hab
      have hy1 : y ≤ 1 := by omega
      have hbit : bitB bs (a + k) = y := by
        unfold bitB; rw [List.getD_eq_getElem?_getD, List.getElem?_eq_getElem hkz, Option.getD_some, ← hx, hy]
      have hUlt : U < 2 ^ k := by rw [HU.out]; exact numF_lt (bitB_le bs) a k
      have hor := u64_or_low hUlt (by omega) hy1
      obtain ⟨s, hs⟩ : ∃ s, s = y * 2 ^ k := ⟨_, rfl⟩
      have hsz : y * 2 ^ k ≤ 2 ^ 63 := by
        have h1 : 2 ^ k ≤ 2 ^ 63 := Nat.pow_le_pow_right (by omega) (by omega)
        have h2 : y * 2 ^ k ≤ 1 * 2 ^ k := Nat.mul_le_mul_right _ hy1
        omega
      have hws : IntKind.u64.wrap ((y : Int) * 2 ^ k) = (s : Int) := by
        have : (y : Int) * 2 ^ k = ((y * 2 ^ k : Nat) : Int) := by rw [Int.natCast_mul, Int.natCast_pow]; rfl
        rw [this, hs]; simp [IntKind.wrap, IntKind.bits, IntKind.signed]; omega
      rw [← hs] at hor
      have HU2 := Lib.hid (show U + s = numF (bitB bs) a (k + 1) by rw [numF, hbit, ← HU.out, hs])
      clear hs hsz hUlt hbit hy hx HU
      subst hA'
      go_wp2_with fail
      exact ⟨⟨k + 1, U + s, by omega, by go_num, by go_num, HU2⟩, by simp [intOf]; omega⟩
    · have HV := Lib.hid (show U = numF (bitB bs) a W by rw [HU.out, show k = W by omega])
      clear HU
      go_wp2_with fail
      go_ret
      exact ⟨by rw [HV.out]; rfl, rfl⟩
theorem maybe_yes (W : Int) (w : World) (h : 0 ≤ W ∧ W ≤ 64) : Calls Try.prog 48 #[.int .i64 W] w fun e w' => e = .returned (.bool true) ∧ w = w' :=
  (maybe_any W w).mono fun _ _ hh => ⟨by rw [hh.1]; simp [h], hh.2⟩
theorem maybe_no (W : Int) (w : World) (h : ¬ (0 ≤ W ∧ W ≤ 64)) : Calls Try.prog 48 #[.int .i64 W] w fun e w' => e = .returned (.bool false) ∧ w = w' :=
  (maybe_any W w).mono fun _ _ hh => ⟨by rw [hh.1]; rw [decide_eq_false h], hh.2⟩
theorem strOf_back {a : List Int} (ha : bytes a) : (strOfNums a).data.toList.map (fun c => (c.toNat : Int)) = a := by
  rw [strOfNums_data, List.map_map]
  conv => rhs; rw [← List.map_id a]
  apply List.map_congr_left
  intro x hx
  obtain ⟨h0, h1⟩ := ha x hx
  simp only [Function.comp, id, UInt8.toNat_ofNat']
  omega
theorem strOf_inj {a b : List Int} (ha : bytes a) (hb : bytes b) (h : strOfNums a = strOfNums b) : a = b := by
  rw [← strOf_back ha, ← strOf_back hb, h]
theorem u8s_row {w : World} {g t : Nat} {xs : List Int} (h : Blk w g t (u8s xs)) : Row w (some ⟨g, 0, none⟩) (xs.map (Value.int .u8)) :=
  .inr ⟨g, 0, rfl, fun j u hu => by rw [Nat.zero_add, h.cell]; simp [u8s]; simpa using hu⟩
theorem nal1 : packL [5, 2, 7] 3 = [213, 1] := by decide +kernel
theorem nal2 : numF (bitB [213, 1]) (2 * 3) 3 = 7 := by decide +kernel
theorem nal3 : widthN [5, 2, 7] = 3 := by decide +kernel
theorem nal4 : strOfNums [213, 1] = ⟨#[213, 1]⟩ := by decide +kernel
theorem bytes2 : bytes [213, 1] := by intro x hx; simp at hx; omega
theorem small3 : small [5, 2, 7] := by intro x hx; simp at hx; omega
end Go.Proofs.Ytedldajlioeioaa
