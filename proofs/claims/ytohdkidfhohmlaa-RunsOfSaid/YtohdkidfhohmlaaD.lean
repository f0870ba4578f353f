/- How many lie below a number; has. -/
import Derived.Test.YtohdkidfhohmlaaB
import Derived.Deep.QuietTactic
import Derived.BigQuiet
namespace Go.Proofs.Ytohdkidfhohmlaa
open Go.RowKit
set_option linter.unusedSimpArgs false
set_option linter.unusedVariables false
/-- How many of a set's numbers are below x. -/
def rankZ (x : Int) : List (Int × Int) → Int
  | [] => 0
  | p :: L => (if p.1 < x then min p.2 x - p.1 else 0) + rankZ x L
/-- Has a set a number? -/
def hasB (x : Int) : List (Int × Int) → Bool
  | [] => false
  | p :: L => if p.1 ≤ x ∧ x < p.2 then true else hasB x L
theorem right_inv {b : Int} {p : Int × Int} {L : List (Int × Int)} (h : rightB b (p :: L) = true) : b < p.1 ∧ p.1 < p.2 ∧ p.2 ≤ 65536 ∧ rightB p.2 L = true := by
  by_cases h1 : p.1 ≤ b ∨ p.2 ≤ p.1 ∨ 65536 < p.2
  · rw [right_bad h1] at h; cases h
  · rw [right_ok h1] at h; exact ⟨by omega, by omega, by omega, h⟩
theorem rank_zero : ∀ (L : List (Int × Int)) (b x : Int), rightB b L = true → x ≤ b + 1 → rankZ x L = 0 := by
  intro L
  induction L with
  | nil => intro b x _ _; rfl
  | cons p L ih =>
    intro b x h hx
    obtain ⟨h1, h2, h3, h4⟩ := right_inv h
    rw [rankZ, if_neg (by omega), ih p.2 x h4 (by omega)]; rfl
set_option maxRecDepth 100000 in
set_option maxHeartbeats 1000000 in
theorem rank_any (A : Option Addr) (n c : Nat) (x : Int) (L : List (Int × Int)) (w : World) (hA : Row w A (cellsP L)) (hz : n = L.length) (hn : n ≤ 1000000) (hr : rightB (-1) L = true) :
    Calls Try.prog 26 #[.slice A n c, .int .i64 x] w fun e w' => e = .returned (.int .i64 (rankZ x L)) ∧ Below w.heap.size w w' := by
  have HZ := Lib.hid hz
  have HRT := Lib.hid hr
  obtain ⟨R, hR⟩ : ∃ R, R = rankZ x L := ⟨_, rfl⟩
  rw [← hR]
  have HR := Lib.hid (show R = 0 + rankZ x L by rw [hR]; omega)
  clear hz hR hr
  go_enter Try.func26, Try.ntmps26
  go_wp2_with fail
  go_loopw [5, 10] (fun a i wr => ∃ (k : Nat) (s z : Int), k ≤ n ∧ i = .int .i64 k ∧ a = .int .i64 s ∧ 0 ≤ s ∧ s ≤ k * 65536 ∧ -1 ≤ z ∧ Hid (R = s + rankZ x (L.drop k)) ∧ Hid (rightB z (L.drop k) = true) ∧ Hid (Below w.heap.size w wr)) (fun _ i _ => n - (intOf i).toNat)
  case atStart => exact ⟨0, 0, -1, by omega, rfl, rfl, by omega, by omega, by omega, HR, HRT, Lib.hid (Below.refl _ _)⟩
  case round =>
    clear HR HRT
    obtain ⟨k, s, z, hk, rfl, rfl, hs0, hs1, hz1, HR, HT, HB⟩ := hrel
    by_cases hlt : k < n
    · have hkz : k < L.length := by have := HZ.out; omega
      obtain ⟨b, off, hA', c0, c1⟩ := (hA.keep (Nat.le_refl _) HB.out).at2 hkz
      obtain ⟨p, hp⟩ : ∃ p, p = L[k].1 := ⟨_, rfl⟩
      obtain ⟨y, hy⟩ : ∃ y, y = L[k].2 := ⟨_, rfl⟩
      have hd : L.drop k = (p, y) :: L.drop (k + 1) := by rw [hp, hy]; exact List.drop_eq_getElem_cons hkz
      rw [← hp] at c0
      rw [← hy] at c1
      have HR2 := HR.out
      have HT2 := HT.out
      rw [hd] at HR2 HT2
      obtain ⟨t1, t2, t3, t4⟩ := right_inv HT2
      have t1' : z < p := t1
      have t2' : p < y := t2
      have t3' : y ≤ 65536 := t3
      have HT3 := Lib.hid t4
      have hk1 : (k : Int) < (n : Int) := by omega
      have hk0 : (0 : Int) ≤ (k : Int) := by omega
      clear hd hp hy HR HT hA t4 t1 t2 t3
      subst hA'
      by_cases hx : x ≤ p
      · have HF := Lib.hid (show R = s by rw [HR2, rankZ, if_neg (by show ¬ p < x; omega), rank_zero _ y x HT3.out (by omega)]; omega)
        clear HR2 HT2
        have hd1 : decide (x ≤ p) = true := by simp; omega
        go_wp2_with fail
        go_ret
        exact ⟨by rw [HF.out]; rfl, bpush HB.out _⟩
      · rw [rankZ, if_pos (show p < x by omega)] at HR2
        have hd1 : decide (x ≤ p) = false := by simp; omega
        by_cases hyx : y ≤ x
        · have HF := Lib.hid (show R = s + (y - p) + rankZ x (L.drop (k + 1)) by rw [HR2, Int.min_eq_left (show (p, y).2 ≤ x from hyx)]; show s + (y - p + _) = _; omega)
          clear HR2 HT2
          have hw1 : IntKind.i64.wrap (y - p) = y - p := IntWalk.i64_in _ (by omega)
          have hw2 : IntKind.i64.wrap (s + (y - p)) = s + (y - p) := IntWalk.i64_in _ (by omega)
          have e0 : 0 ≤ s + (y - p) := by omega
          have e1 : s + (y - p) ≤ ((k + 1 : Nat) : Int) * 65536 := by omega
          have ey : -1 ≤ y := by omega
          go_wp2_with fail
          go_roundw
          case rel => exact ⟨k + 1, s + (y - p), y, by omega, by go_num, rfl, e0, e1, ey, HF, HT3, Lib.hid (bpush HB.out _)⟩
          case measure => simp [intOf]; omega
        · have HF := Lib.hid (show R = s + (x - p) + rankZ x (L.drop (k + 1)) by rw [HR2, Int.min_eq_right (show x ≤ (p, y).2 by show x ≤ y; omega)]; show s + (x - p + _) = _; omega)
          clear HR2 HT2
          have hw1 : IntKind.i64.wrap (x - p) = x - p := IntWalk.i64_in _ (by omega)
          have hw2 : IntKind.i64.wrap (s + (x - p)) = s + (x - p) := IntWalk.i64_in _ (by omega)
          have e0 : 0 ≤ s + (x - p) := by omega
          have e1 : s + (x - p) ≤ ((k + 1 : Nat) : Int) * 65536 := by omega
          have ey : -1 ≤ y := by omega
          have hxy : x < y := by omega
          go_wp2_with fail
          go_roundw
          case rel => exact ⟨k + 1, s + (x - p), y, by omega, by go_num, rfl, e0, e1, ey, HF, HT3, Lib.hid (bpush HB.out _)⟩
          case measure => simp [intOf]; omega
    · have HF := Lib.hid (show R = s by rw [HR.out, List.drop_of_length_le (by have := HZ.out; omega)]; simp [rankZ])
      clear HR
      have hk1 : ¬ (k : Int) < (n : Int) := by omega
      go_wp2_with fail
      go_ret
      exact ⟨by rw [HF.out]; rfl, HB.out⟩
set_option maxRecDepth 100000 in
set_option maxHeartbeats 1000000 in
theorem has_any (A : Option Addr) (n c : Nat) (x : Int) (L : List (Int × Int)) (w : World) (hA : Row w A (cellsP L)) (hz : n = L.length) (hn : n ≤ 9223372036854775807) :
    Calls Try.prog 24 #[.slice A n c, .int .i64 x] w fun e w' => e = .returned (.bool (hasB x L)) ∧ Below w.heap.size w w' := by
  have HZ := Lib.hid hz
  obtain ⟨R, hR⟩ : ∃ R, R = hasB x L := ⟨_, rfl⟩
  rw [← hR]
  have HR := Lib.hid hR
  clear hz hR
  go_enter Try.func24, Try.ntmps24
  go_wp2_with fail
  go_loopw [9] (fun i wr => ∃ (k : Nat), k ≤ n ∧ i = .int .i64 k ∧ Hid (R = hasB x (L.drop k)) ∧ Hid (Below w.heap.size w wr)) (fun i _ => n - (intOf i).toNat)
  case atStart => exact ⟨0, by omega, rfl, HR, Lib.hid (Below.refl _ _)⟩
  case round =>
    clear HR
    obtain ⟨k, hk, rfl, HR, HB⟩ := hrel
    by_cases hlt : k < n
    · have hkz : k < L.length := by have := HZ.out; omega
      obtain ⟨b, off, hA', c0, c1⟩ := (hA.keep (Nat.le_refl _) HB.out).at2 hkz
      obtain ⟨p, hp⟩ : ∃ p, p = L[k].1 := ⟨_, rfl⟩
      obtain ⟨y, hy⟩ : ∃ y, y = L[k].2 := ⟨_, rfl⟩
      have hd : L.drop k = (p, y) :: L.drop (k + 1) := by rw [hp, hy]; exact List.drop_eq_getElem_cons hkz
      rw [← hp] at c0
      rw [← hy] at c1
      have HR2 := HR.out
      rw [hd, hasB] at HR2
      have hk1 : (k : Int) < (n : Int) := by omega
      have hk0 : (0 : Int) ≤ (k : Int) := by omega
      clear hd hp hy HR hA
      subst hA'
      by_cases hin : p ≤ x ∧ x < y
      · rw [if_pos (show (p, y).1 ≤ x ∧ x < (p, y).2 from hin)] at HR2
        have HF := Lib.hid HR2
        obtain ⟨h1, h2⟩ := hin
        clear HR2
        go_wp2_with fail
        go_ret
        exact ⟨by rw [HF.out]; rfl, bpush HB.out _⟩
      · rw [if_neg (show ¬ ((p, y).1 ≤ x ∧ x < (p, y).2) from hin)] at HR2
        have HF := Lib.hid HR2
        clear HR2
        by_cases h1 : p ≤ x
        · have h2 : ¬ x < y := by omega
          clear hin
          go_wp2_with fail
          go_roundw
          case rel => exact ⟨k + 1, by omega, by go_num, HF, Lib.hid (bpush HB.out _)⟩
          case measure => simp [intOf]; omega
        · clear hin
          go_wp2_with fail
          go_roundw
          case rel => exact ⟨k + 1, by omega, by go_num, HF, Lib.hid (bpush HB.out _)⟩
          case measure => simp [intOf]; omega
    · have HF := Lib.hid (show R = false by rw [HR.out, List.drop_of_length_le (by have := HZ.out; omega)]; rfl)
      clear HR
      have hk1 : ¬ (k : Int) < (n : Int) := by omega
      go_wp2_with fail
      go_ret
      exact ⟨by rw [HF.out]; rfl, HB.out⟩
end Go.Proofs.Ytohdkidfhohmlaa
