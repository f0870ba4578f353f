/- The document's Size, Width, bits, number, At. -/
import Derived.Test.YtedldajlioeioaaNJ
namespace Go.Proofs.Ytedldajlioeioaa
open Go.RowKit
set_option linter.unusedSimpArgs false
set_option linter.unusedVariables false
set_option maxHeartbeats 400000 in
theorem rsize_good (n W : Int) (w : World) (h1 : 0 ≤ n) (h2 : n ≤ 65536) (h3 : 0 ≤ W) (h4 : W ≤ 64) :
    Calls Try.prog 29 #[.int .i64 n, .int .i64 W] w fun e w' => e = .returned (.tuple #[.int .i64 ((n * W + 7) / 8), .int .i64 0]) ∧ w = w' := by
  have hm0 : 0 ≤ n * W := Int.mul_nonneg h1 h3
  have hm1 : n * W ≤ 4194304 := Int.mul_le_mul h2 h4 h3 (by omega)
  go_enter Try.func29, Try.ntmps29
  go_wp2
  go_ret2
  exact ⟨rfl, rfl⟩
set_option maxHeartbeats 400000 in
theorem rsize_bad (n W : Int) (w : World) (h : ¬ okSize n W) :
    Calls Try.prog 29 #[.int .i64 n, .int .i64 W] w fun e w' => e = .returned (.tuple #[.int .i64 0, .int .i64 1]) ∧ w = w' := by
  unfold okSize at h
  have H := Lib.hid h
  clear h
  by_cases h1 : n < 0
  · go_enter Try.func29, Try.ntmps29
    go_wp2
    go_ret2
    exact ⟨rfl, rfl⟩
  · by_cases h2 : 65536 < n
    · go_enter Try.func29, Try.ntmps29
      go_wp2
      go_ret2
      exact ⟨rfl, rfl⟩
    · have a1 : 0 ≤ n := by omega
      have a2 : n ≤ 65536 := by omega
      have b1 : decide (n < 0) = false := by simpa using a1
      have b2 : decide (65536 < n) = false := by simpa using a2
      clear h1 h2
      by_cases h3 : W < 0
      · go_enter Try.func29, Try.ntmps29
        go_wp2
        go_ret2
        exact ⟨rfl, rfl⟩
      · have h4 : 64 < W := by have := H.out; omega
        go_enter Try.func29, Try.ntmps29
        go_wp2
        go_ret2
        exact ⟨rfl, rfl⟩
def refW (l : List Nat) : Nat := l.foldl (fun a x => max a (Lib.bitLen x)) 0
theorem refW_snoc (l : List Nat) (x : Nat) : refW (l ++ [x]) = max (refW l) (Lib.bitLen x) := by simp [refW]
theorem refWF_le {v : Nat} : ∀ (l : List Nat) (a : Nat), (l.foldl (fun a x => max a (Lib.bitLen x)) a ≤ v ↔ a ≤ v ∧ ∀ x ∈ l, Lib.bitLen x ≤ v) := by
  intro l
  induction l with
  | nil => intro a; simp
  | cons x l ih =>
    intro a
    rw [List.foldl_cons, ih, Nat.max_le]
    simp only [List.mem_cons, forall_eq_or_imp, and_assoc]
theorem refW_eq {l : List Nat} (hs : small l) : refW l = widthN l := by
  have h : ∀ v, refW l ≤ v ↔ widthN l ≤ v := by
    intro v
    rw [widthN_le hs]; unfold refW; rw [refWF_le]
    constructor
    · intro hh x hx; exact (bitLen_iff (hs x hx) v).1 (hh.2 x hx)
    · intro hh; exact ⟨by omega, fun x hx => (bitLen_iff (hs x hx) v).2 (hh x hx)⟩
  exact Nat.le_antisymm ((h _).2 (Nat.le_refl _)) ((h _).1 (Nat.le_refl _))
theorem bitLen_pos {x : Nat} (h : 0 < x) (hx : x < 18446744073709551616) : Lib.bitLen x = 1 + Lib.bitLen (x / 2) := by
  unfold Lib.bitLen
  rw [Lib.bitLenAux, if_neg (by omega), Lib.bitLenAux_fuel 63 (x / 2) (by omega) 64 (by omega)]
theorem bitLen_zero : Lib.bitLen 0 = 0 := by simp [Lib.bitLen, Lib.bitLenAux]
set_option maxHeartbeats 1000000 in
theorem rwidth_any (A : Option Addr) (n c : Nat) (l : List Nat) (w : World) (hA : Row w A (u64s l)) (hn : n ≤ 1000000) (hz : n = l.length) (hs : small l) :
    Calls Try.prog 22 #[.slice A n c] w fun e w' => e = .returned (.int .i64 (widthN l : Nat)) ∧ w = w' := by
  have HZ := Lib.hid hz
  have HS := Lib.hid hs
  clear hz hs
  go_enter Try.func22, Try.ntmps22
  go_wp2_with fail
  go_loop [3, 4, 5, 6] (fun m i _ _ => ∃ k U : Nat, k ≤ n ∧ i = .int .i64 k ∧ m = .int .i64 U ∧ U ≤ 64 ∧ Hid (U = refW (l.take k))) (fun _ i _ _ => n - (intOf i).toNat)
  case atStart => exact ⟨0, 0, Nat.zero_le _, rfl, rfl, by omega, Lib.hid rfl⟩
  case round =>
    obtain ⟨k, U, hk, rfl, rfl, hU, HU⟩ := hrel
    by_cases hlt : k < n
    · have hkz : k < l.length := by have := HZ.out; omega
      obtain ⟨b, off, hA', hcell⟩ := u64s_cell hA hkz
      obtain ⟨x, hx⟩ : ∃ x, x = l[k] := ⟨_, rfl⟩
      have hxs : x < 18446744073709551616 := HS.out x (by rw [hx]; exact List.getElem_mem _)
      rw [← hx] at hcell
      have HU2 := Lib.hid (show max U (Lib.bitLen x) = refW (l.take (k + 1)) by rw [take_snoc l k hkz, refW_snoc, ← HU.out, hx])
      have HXL := Lib.hid (bitLen_le x)
      clear hx HU hkz
      subst hA'
      go_wp2_with fail
      go_loop [5, 6] (fun a y => ∃ d v : Nat, a = .int .i64 d ∧ y = .int .u64 v ∧ (v : Int) < 18446744073709551616 ∧ d ≤ 64 ∧ Hid (Lib.bitLen x = d + Lib.bitLen v)) (fun _ y => (intOf y).toNat)
      case atStart => exact ⟨0, x, rfl, rfl, by omega, by omega, Lib.hid (by omega)⟩
      case round =>
        obtain ⟨d, v, rfl, rfl, hv, hd, HD⟩ := hrel
        by_cases hv0 : 0 < v
        · have hp := bitLen_pos hv0 (by omega)
          have HD2 := Lib.hid (show Lib.bitLen x = d + 1 + Lib.bitLen (v / 2) by rw [HD.out, hp]; omega)
          have hd2 : d + 1 ≤ 64 := by have := HD2.out; have := HXL.out; omega
          clear hp HD
          go_wp2_with fail
          go_round
          case rel => exact ⟨d + 1, v / 2, by go_num, by go_num, by omega, hd2, HD2⟩
          case measure => simp [intOf]; omega
        · obtain rfl : v = 0 := by omega
          have HD2 := Lib.hid (show max U d = refW (l.take (k + 1)) by rw [← HU2.out, HD.out, bitLen_zero, Nat.add_zero])
          clear HD HU2
          go_wp2_with fail
          go_round
          case rel => exact ⟨k + 1, max U d, by omega, by go_num, by first | rfl | go_num, by omega, HD2⟩
          case measure => simp [intOf]; omega
    · have HV := Lib.hid (show U = widthN l by rw [HU.out, List.take_of_length_le (by have := HZ.out; omega), refW_eq HS.out])
      clear HU
      go_wp2_with fail
      go_ret
      exact ⟨by rw [HV.out]; rfl, rfl⟩
set_option maxHeartbeats 1000000 in
theorem rnnumber_any (A : Option Addr) (n c : Nat) (bs : List Int) (a W : Nat) (w : World) (hA : Row w A (bs.map (Value.int .u8))) (hz : n = bs.length) (hb : bytes bs) (hn : n ≤ 1000000) (hW : W ≤ 64) (haW : a + W ≤ 8 * n) :
    Calls Try.prog 46 #[.slice A n c, .int .i64 (a : Nat), .int .i64 (W : Nat)] w fun e w' => e = .returned (.int .u64 (numF (bitB bs) a W : Nat)) ∧ w = w' := by
  have HZ := Lib.hid hz
  have HB := Lib.hid hb
  clear hz hb
  go_enter Try.func46, Try.ntmps46
  go_wp2_with fail
  go_loop [7, 8] (fun u i => ∃ (r U : Nat) (z : Int), r ≤ W ∧ i = .int .i64 z ∧ Hid (z = (r : Int) - 1) ∧ u = .int .u64 U ∧ Hid (U = numF (bitB bs) (a + r) (W - r))) (fun _ i => (intOf i + 1).toNat)
  case atStart => exact ⟨W, 0, _, Nat.le_refl _, rfl, Lib.hid rfl, rfl, Lib.hid (by rw [Nat.sub_self]; rfl)⟩
  case round =>
    obtain ⟨r, U, z, hk, rfl, HZZ, rfl, HU⟩ := hrel
    cases r with
    | succ s =>
      obtain rfl : z = (s : Int) := by have := HZZ.out; omega
      have hkz : (a + s) / 8 < bs.length := by have := HZ.out; omega
      have hqn : (a + s) / 8 < n := by omega
      obtain ⟨b, off, hA', hcell⟩ := hA.cell hkz
      obtain ⟨x, hx⟩ : ∃ x, x = bs[(a + s) / 8] := ⟨_, rfl⟩
      obtain ⟨x0, x1⟩ := HB.out x (by rw [hx]; exact List.getElem_mem _)
      rw [← hx] at hcell
      obtain ⟨y, hy⟩ : ∃ y, y = x.toNat / 2 ^ ((a + s) % 8) % 2 := ⟨_, rfl⟩
      have hab : (x / 2 ^ ((a + s) % 8)).tmod 2 = (y : Int) := by
        obtain ⟨v, rfl⟩ := Int.eq_ofNat_of_zero_le x0
        have e : ((v : Int) / 2 ^ ((a + s) % 8)) = ((v / 2 ^ ((a + s) % 8) : Nat) : Int) := by rw [Int.natCast_ediv, Int.natCast_pow]; rfl
        rw [e, Int.tmod_eq_emod_of_nonneg (Int.natCast_nonneg _), hy]; simp
      have hy1 : y ≤ 1 := by omega
      have hbit : bitB bs (a + s) = y := by
        unfold bitB; rw [List.getD_eq_getElem?_getD, List.getElem?_eq_getElem hkz, Option.getD_some, ← hx, hy]
      have hU63 : U < 9223372036854775808 := by
        have h1 : U < 2 ^ (W - (s + 1)) := by rw [HU.out]; exact numF_lt (bitB_le bs) _ _
        have h2 : 2 ^ (W - (s + 1)) ≤ 2 ^ 63 := Nat.pow_le_pow_right (by omega) (by omega)
        omega
      have HU2 := Lib.hid (show 2 * U + y = numF (bitB bs) (a + s) (W - s) by
        have e := numF_head (bitB bs) (a + s) (W - (s + 1))
        rw [hbit, show a + s + 1 = a + (s + 1) from by omega, ← HU.out] at e
        rw [show W - s = (W - (s + 1)) + 1 from by omega, e]; omega)
      clear hbit hy hx HU HZZ
      subst hA'
      go_wp2_with fail
      go_round
      case rel => exact ⟨s, 2 * U + y, (s : Int) - 1, by omega, rfl, Lib.hid rfl, by go_num, HU2⟩
      case measure => first | (simp [intOf]; done) | (simp [intOf]; omega)
    | zero =>
      obtain rfl : z = -1 := by have := HZZ.out; omega
      have HV := Lib.hid (show U = numF (bitB bs) a W by rw [HU.out, Nat.add_zero, Nat.sub_zero])
      clear HU HZZ
      go_wp2_with fail
      go_ret
      exact ⟨by rw [HV.out]; rfl, rfl⟩
end Go.Proofs.Ytedldajlioeioaa
