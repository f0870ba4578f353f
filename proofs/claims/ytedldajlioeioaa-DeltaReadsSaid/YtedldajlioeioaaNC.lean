/- Widths and sizes. -/
import Derived.Test.YtedldajlioeioaaNB
import Derived.Test.YtedldajlioeioaaZC

namespace Go.Proofs.Ytedldajlioeioaa
open Go.RowKit
set_option linter.unusedSimpArgs false
theorem bitLen_le (x : Nat) : Lib.bitLen x ≤ 64 := bitLenAux_le 64 x
theorem bitLen_iff {x : Nat} (h : x < 2 ^ 64) (w : Nat) : Lib.bitLen x ≤ w ↔ x < 2 ^ w := by
  constructor
  · intro h1
    have h2 : x < 2 ^ Lib.bitLen x := bitLenAux_lt 64 x h
    have h3 : 2 ^ Lib.bitLen x ≤ 2 ^ w := Nat.pow_le_pow_right (by omega) h1
    omega
  · intro h1
    rcases Nat.eq_zero_or_pos x with h0 | h0
    · subst h0; simp [Lib.bitLen, Lib.bitLenAux]
    · have h2 : 2 ^ (Lib.bitLen x - 1) ≤ x := bitLenAux_ge 64 x (by omega) (by omega)
      rcases Nat.lt_or_ge w (Lib.bitLen x) with h3 | h3
      · have h4 : 2 ^ w ≤ 2 ^ (Lib.bitLen x - 1) := Nat.pow_le_pow_right (by omega) (by omega)
        omega
      · exact h3
/-- All numbers' bits. -/
def orL (l : List Nat) : Nat := l.foldl (· ||| ·) 0
theorem orL_snoc (l : List Nat) (x : Nat) : orL (l ++ [x]) = orL l ||| x := by simp [orL]
def small (l : List Nat) : Prop := ∀ x ∈ l, x < 18446744073709551616
theorem or_lt_iff {a b w : Nat} : a ||| b < 2 ^ w ↔ a < 2 ^ w ∧ b < 2 ^ w :=
  ⟨fun h => ⟨Nat.lt_of_le_of_lt Nat.left_le_or h, Nat.lt_of_le_of_lt Nat.right_le_or h⟩, fun h => Nat.or_lt_two_pow h.1 h.2⟩
theorem orF_lt {w : Nat} : ∀ (l : List Nat) (a : Nat), (l.foldl (· ||| ·) a < 2 ^ w ↔ a < 2 ^ w ∧ ∀ x ∈ l, x < 2 ^ w) := by
  intro l
  induction l with
  | nil => intro a; simp
  | cons x l ih =>
    intro a
    rw [List.foldl_cons, ih, or_lt_iff]
    simp only [List.mem_cons, forall_eq_or_imp, and_assoc]
theorem orL_lt {w : Nat} (l : List Nat) : (orL l < 2 ^ w ↔ ∀ x ∈ l, x < 2 ^ w) := by
  unfold orL; rw [orF_lt]; exact ⟨fun h => h.2, fun h => ⟨Nat.pow_pos (by omega), h⟩⟩
theorem orL_small {l : List Nat} (h : small l) : orL l < 18446744073709551616 := (orL_lt (w := 64) l).2 h
/-- How many bits a list's numbers need. -/
def widthN (l : List Nat) : Nat := Lib.bitLen (orL l)
theorem widthN_le64 (l : List Nat) : widthN l ≤ 64 := bitLen_le _
theorem widthN_le {l : List Nat} (h : small l) (w : Nat) : widthN l ≤ w ↔ ∀ x ∈ l, x < 2 ^ w := by
  unfold widthN; rw [bitLen_iff (orL_small h), orL_lt]
def u64s (l : List Nat) : List Value := l.map (fun x : Nat => Value.int .u64 (x : Int))
theorem u64s_length (l : List Nat) : (u64s l).length = l.length := by simp [u64s]
theorem u64s_cell {w : World} {A : Option Addr} {l : List Nat} {i : Nat} (hA : Row w A (u64s l)) (hi : i < l.length) :
    ∃ b off, A = some ⟨b, off, none⟩ ∧ w.cell? ⟨b, off + i, none⟩ = some (.int .u64 (l[i] : Nat)) := by
  rcases hA with hA | ⟨b, off, rfl, hc⟩
  · simp [u64s] at hA; subst hA; simp at hi
  · exact ⟨b, off, rfl, hc i _ (by simp [u64s, hi])⟩
theorem small_take {l : List Nat} (h : small l) (k : Nat) : small (l.take k) := fun x hx => h x (List.mem_of_mem_take hx)
set_option maxHeartbeats 1000000 in
theorem width_any (A : Option Addr) (n c : Nat) (l : List Nat) (w : World) (hA : Row w A (u64s l)) (hn : n ≤ 9223372036854775807) (hz : n = l.length) (hs : small l) :
    Calls Try.prog 17 #[.slice A n c] w fun e w' => e = .returned (.int .i64 (widthN l : Nat)) ∧ w = w' := by
  have HZ := Lib.hid hz
  have HS := Lib.hid hs
  clear hz hs
  go_enter Try.func17, Try.ntmps17
  go_wp2_with fail
  go_loop [3, 5, 8] (fun u _ i => ∃ k U : Nat, k ≤ n ∧ i = .int .i64 k ∧ u = .int .u64 U ∧ (U : Int) < 18446744073709551616 ∧ Hid (U = orL (l.take k))) (fun _ _ i => n - (intOf i).toNat)
  case atStart => exact ⟨0, 0, Nat.zero_le _, rfl, rfl, by omega, rfl⟩
  case round =>
    obtain ⟨k, U, hk, rfl, rfl, hU, HU⟩ := hrel
    by_cases hlt : k < n
    · have hkz : k < l.length := by have := HZ.out; omega
      obtain ⟨b, off, hA', hcell⟩ := u64s_cell hA hkz
      obtain ⟨x, hx⟩ : ∃ x, x = l[k] := ⟨_, rfl⟩
      have hxs : x < 18446744073709551616 := HS.out x (by rw [hx]; exact List.getElem_mem _)
      rw [← hx] at hcell
      have ho := u64_or_nat U x (by omega) hxs
      have hol : U ||| x < 2 ^ 64 := Nat.or_lt_two_pow (by omega) (by omega)
      have hos : (((U ||| x : Nat)) : Int) < 18446744073709551616 := by omega
      have HU2 := Lib.hid (show U ||| x = orL (l.take (k + 1)) by rw [take_snoc l k hkz, orL_snoc, ← HU.out, hx])
      clear hx hol HU
      subst hA'
      go_wp2
      go_round
      case rel => exact ⟨k + 1, U ||| x, by omega, by go_num, rfl, hos, HU2⟩
      case measure => simp [intOf]; omega
    · have HV := Lib.hid (show U = orL l by rw [HU.out, List.take_of_length_le (by have := HZ.out; omega)])
      clear HU
      go_wp2_with fail
      refine (Try.bits_Len64 _ _ (by omega) (by omega)).mono ?_
      rintro e w1 ⟨rfl, rfl⟩
      go_wp2
      go_ret
      exact ⟨by rw [HV.out]; rfl, rfl⟩
set_option maxHeartbeats 400000 in
theorem maybe_any (W : Int) (w : World) : Calls Try.prog 48 #[.int .i64 W] w fun e w' => e = .returned (.bool (decide (0 ≤ W ∧ W ≤ 64))) ∧ w = w' := by
  by_cases h0 : 0 ≤ W
  · by_cases h1 : W ≤ 64
    · go_enter Try.func48, Try.ntmps48
      go_wp2
      go_ret
      exact ⟨by simp [h0, h1], rfl⟩
    · go_enter Try.func48, Try.ntmps48
      go_wp2
      go_ret
      exact ⟨by simp [h1], rfl⟩
  · go_enter Try.func48, Try.ntmps48
    go_wp2
    go_ret
    exact ⟨by simp; omega, rfl⟩
/-- Is a size told? -/
def okSize (n W : Int) : Prop := (0 ≤ n ∧ n ≤ 65536) ∧ 0 ≤ W ∧ W ≤ 64
set_option maxHeartbeats 400000 in
theorem size_good (n W : Int) (w : World) (h1 : 0 ≤ n) (h2 : n ≤ 65536) (h3 : 0 ≤ W) (h4 : W ≤ 64) :
    Calls Try.prog 36 #[.int .i64 n, .int .i64 W] w fun e w' => e = .returned (.tuple #[.int .i64 ((n * W + 7) / 8), .int .i64 0]) ∧ w = w' := by
  have hm0 : 0 ≤ n * W := Int.mul_nonneg h1 h3
  have hm1 : n * W ≤ 4194304 := Int.mul_le_mul h2 h4 h3 (by omega)
  have hb : decide (0 ≤ W ∧ W ≤ 64) = true := by simp [h3, h4]
  go_enter Try.func36, Try.ntmps36
  go_wp2_with (go_at_call 48; refine (maybe_any _ _).mono ?_; rintro e w1 ⟨rfl, rfl⟩)
  go_ret2
  refine ⟨?_, rfl⟩
  have e : (n * W + 8 - 1) / 8 = (n * W + 7) / 8 := by omega
  rw [← e]; rfl
set_option maxHeartbeats 400000 in
theorem size_bad (n W : Int) (w : World) (h : ¬ okSize n W) :
    Calls Try.prog 36 #[.int .i64 n, .int .i64 W] w fun e w' => e = .returned (.tuple #[.int .i64 0, .int .i64 1]) ∧ w = w' := by
  unfold okSize at h
  by_cases h1 : n < 0
  · go_enter Try.func36, Try.ntmps36
    go_wp2
    go_ret2
    exact ⟨rfl, rfl⟩
  · have h1' : 0 ≤ n := by omega
    by_cases h2 : 65536 < n
    · clear h
      go_enter Try.func36, Try.ntmps36
      go_wp2
      go_ret2
      exact ⟨rfl, rfl⟩
    · have hb : decide (0 ≤ W ∧ W ≤ 64) = false := by simp; omega
      have h2' : n ≤ 65536 := by omega
      clear h h1 h2
      go_enter Try.func36, Try.ntmps36
      go_wp2_with (go_at_call 48; refine (maybe_any _ _).mono ?_; rintro e w1 ⟨rfl, rfl⟩)
      go_ret2
      exact ⟨rfl, rfl⟩
end Go.Proofs.Ytedldajlioeioaa
