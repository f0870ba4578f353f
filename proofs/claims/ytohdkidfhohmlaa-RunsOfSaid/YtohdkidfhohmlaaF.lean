/- The k-th, both sides; all below; how many; two lists that are one. -/
import Derived.Test.YtohdkidfhohmlaaE
namespace Go.Proofs.Ytohdkidfhohmlaa
open Go.RowKit
set_option linter.unusedSimpArgs false
set_option linter.unusedVariables false
/-- The k-th number of a set, from k = 0 on. -/
def selZ : Int → List (Int × Int) → Int × Bool
  | _, [] => (0, false)
  | k, p :: L => if k < p.2 - p.1 then (p.1 + k, true) else selZ (k - (p.2 - p.1)) L
def selF (k : Int) (L : List (Int × Int)) : Int × Bool := if k < 0 then (0, false) else selZ k L
set_option maxRecDepth 100000 in
set_option maxHeartbeats 1000000 in
theorem select_any (A : Option Addr) (n c : Nat) (x : Int) (L : List (Int × Int)) (w : World) (hA : Row w A (cellsP L)) (hz : n = L.length) (hn : n ≤ 1000000) (hr : rightB (-1) L = true) (x1 : -9223372036854775808 ≤ x) (x2 : x ≤ 9223372036854775807) :
    Calls Try.prog 20 #[.slice A n c, .int .i64 x] w fun e w' => e = .returned (.tuple #[.int .i64 (selF x L).1, .bool (selF x L).2]) ∧ Below w.heap.size w w' := by
  have HZ := Lib.hid hz
  have HRT := Lib.hid hr
  obtain ⟨R, hR⟩ : ∃ R, R = selF x L := ⟨_, rfl⟩
  rw [← hR]
  by_cases hx0 : x < 0
  · have HF := Lib.hid (show R = (0, false) by rw [hR, selF, if_pos hx0])
    have hd0 : decide (x < 0) = true := by simp; omega
    have hd9 : decide (0 ≤ x) = false := by simp; omega
    clear hz hR hr
    go_enter Try.func20, Try.ntmps20
    go_wp2_with fail
    go_ret2
    exact ⟨by rw [HF.out]; rfl, Below.refl _ _⟩
  rw [selF, if_neg hx0] at hR
  have HR := Lib.hid hR
  have hd0 : decide (x < 0) = false := by simp; omega
  clear hz hR hr
  go_enter Try.func20, Try.ntmps20
  go_wp2_with fail
  go_loopw [1, 12] (fun a i wr => ∃ (k : Nat) (s z : Int), k ≤ n ∧ i = .int .i64 k ∧ a = .int .i64 s ∧ 0 ≤ s ∧ s ≤ 9223372036854775807 ∧ -1 ≤ z ∧ Hid (R = selZ s (L.drop k)) ∧ Hid (rightB z (L.drop k) = true) ∧ Hid (Below w.heap.size w wr)) (fun _ i _ => n - (intOf i).toNat)
  case atStart => exact ⟨0, x, -1, by omega, rfl, rfl, by omega, by omega, by omega, HR, HRT, Lib.hid (Below.refl _ _)⟩
  case round =>
    clear HR HRT
    obtain ⟨k, s, z, hk, rfl, rfl, hs0, hs1, hz1, HR, HT, HB⟩ := hrel
    have hds : decide (0 ≤ s) = true := by simp; omega
    by_cases hlt : k < n
    · have hkz : k < L.length := by have := HZ.out; omega
      obtain ⟨b, off, hA', c0, c1⟩ := (hA.keep (Nat.le_refl _) HB.out).at2 hkz
      obtain ⟨p, hp⟩ : ∃ p, p = L[k].1 := ⟨_, rfl⟩
      obtain ⟨y, hy⟩ : ∃ y, y = L[k].2 := ⟨_, rfl⟩
      have hd : L.drop k = (p, y) :: L.drop (k + 1) := by rw [hp, hy]; exact List.drop_eq_getElem_cons hkz
      rw [← hp] at c0
      rw [← hy] at c1
      have HR2 := HR.out
      have HT2 := HT.out
      rw [hd] at HR2 HT2
      obtain ⟨t1, t2, t3, t4⟩ := right_inv HT2
      have t1' : z < p := t1
      have t2' : p < y := t2
      have t3' : y ≤ 65536 := t3
      have HT3 := Lib.hid t4
      have hk1 : (k : Int) < (n : Int) := by omega
      have hk0 : (0 : Int) ≤ (k : Int) := by omega
      have ey : -1 ≤ y := by omega
      have hw1 : IntKind.i64.wrap (y - p) = y - p := IntWalk.i64_in _ (by omega)
      clear hd hp hy HR HT hA t4 t1 t2 t3 HT2
      subst hA'
      by_cases hx : s < y - p
      · have HF := Lib.hid (show R = (p + s, true) by rw [HR2, selZ, if_pos (show s < (p, y).2 - (p, y).1 from hx)])
        clear HR2
        have hd1 : decide (s < y - p) = true := by simp; omega
        have hw2 : IntKind.i64.wrap (p + s) = p + s := IntWalk.i64_in _ (by omega)
        go_wp2_with fail
        go_ret2
        exact ⟨by rw [HF.out]; rfl, bpush HB.out _⟩
      · have HF := Lib.hid (show R = selZ (s - (y - p)) (L.drop (k + 1)) by rw [HR2, selZ, if_neg (show ¬ s < (p, y).2 - (p, y).1 from hx)])
        clear HR2
        have hd1 : decide (s < y - p) = false := by simp; omega
        have hw2 : IntKind.i64.wrap (s - (y - p)) = s - (y - p) := IntWalk.i64_in _ (by omega)
        have e0 : 0 ≤ s - (y - p) := by omega
        have e1 : s - (y - p) ≤ 9223372036854775807 := by omega
        go_wp2_with fail
        go_roundw
        case rel => exact ⟨k + 1, s - (y - p), y, by omega, by go_num, rfl, e0, e1, ey, HF, HT3, Lib.hid (bpush HB.out _)⟩
        case measure => simp [intOf]; omega
    · have HF := Lib.hid (show R = (0, false) by rw [HR.out, List.drop_of_length_le (by have := HZ.out; omega)]; rfl)
      clear HR
      have hk1 : ¬ (k : Int) < (n : Int) := by omega
      go_wp2_with fail
      go_ret2
      exact ⟨by rw [HF.out]; rfl, HB.out⟩
set_option maxRecDepth 100000 in
set_option maxHeartbeats 1000000 in
theorem rselect_any (A : Option Addr) (n c : Nat) (x : Int) (L : List (Int × Int)) (w : World) (hA : Row w A (cellsP L)) (hz : n = L.length) (hn : n ≤ 1000000) (hr : rightB (-1) L = true) (x1 : -9223372036854775808 ≤ x) (x2 : x ≤ 9223372036854775807) :
    Calls Try.prog 21 #[.slice A n c, .int .i64 x] w fun e w' => e = .returned (.tuple #[.int .i64 (selF x L).1, .bool (selF x L).2]) ∧ Below w.heap.size w w' := by
  have HZ := Lib.hid hz
  have HRT := Lib.hid hr
  obtain ⟨R, hR⟩ : ∃ R, R = selF x L := ⟨_, rfl⟩
  rw [← hR]
  by_cases hx0 : x < 0
  · have HF := Lib.hid (show R = (0, false) by rw [hR, selF, if_pos hx0])
    have hd0 : decide (x < 0) = true := by simp; omega
    have hd9 : decide (0 ≤ x) = false := by simp; omega
    clear hz hR hr
    go_enter Try.func21, Try.ntmps21
    go_wp2_with fail
    go_loopw [1, 6] (fun a i wr => a = .int .i64 x ∧ i = .int .i64 0 ∧ wr = w) (fun _ i _ => 0)
    case atStart => exact ⟨rfl, rfl, rfl⟩
    case round =>
      obtain ⟨rfl, rfl, rfl⟩ := hrel
      by_cases hn0 : 0 < n
      · have hn1 : (0 : Int) < (n : Int) := by omega
        go_wp2_with fail
        go_ret2
        exact ⟨by rw [HF.out]; rfl, Below.refl _ _⟩
      · have hn1 : ¬ (0 : Int) < (n : Int) := by omega
        go_wp2_with fail
        go_ret2
        exact ⟨by rw [HF.out]; rfl, Below.refl _ _⟩
  rw [selF, if_neg hx0] at hR
  have HR := Lib.hid hR
  have hd0 : decide (x < 0) = false := by simp; omega
  clear hz hR hr
  go_enter Try.func21, Try.ntmps21
  go_wp2_with fail
  go_loopw [1, 6] (fun a i wr => ∃ (k : Nat) (s z : Int), k ≤ n ∧ i = .int .i64 k ∧ a = .int .i64 s ∧ 0 ≤ s ∧ s ≤ 9223372036854775807 ∧ -1 ≤ z ∧ Hid (R = selZ s (L.drop k)) ∧ Hid (rightB z (L.drop k) = true) ∧ Hid (Below w.heap.size w wr)) (fun _ i _ => n - (intOf i).toNat)
  case atStart => exact ⟨0, x, -1, by omega, rfl, rfl, by omega, by omega, by omega, HR, HRT, Lib.hid (Below.refl _ _)⟩
  case round =>
    clear HR HRT
    obtain ⟨k, s, z, hk, rfl, rfl, hs0, hs1, hz1, HR, HT, HB⟩ := hrel
    have hds : decide (0 ≤ s) = true := by simp; omega
    by_cases hlt : k < n
    · have hkz : k < L.length := by have := HZ.out; omega
      obtain ⟨b, off, hA', c0, c1⟩ := (hA.keep (Nat.le_refl _) HB.out).at2 hkz
      obtain ⟨p, hp⟩ : ∃ p, p = L[k].1 := ⟨_, rfl⟩
      obtain ⟨y, hy⟩ : ∃ y, y = L[k].2 := ⟨_, rfl⟩
      have hd : L.drop k = (p, y) :: L.drop (k + 1) := by rw [hp, hy]; exact List.drop_eq_getElem_cons hkz
      rw [← hp] at c0
      rw [← hy] at c1
      have HR2 := HR.out
      have HT2 := HT.out
      rw [hd] at HR2 HT2
      obtain ⟨t1, t2, t3, t4⟩ := right_inv HT2
      have t1' : z < p := t1
      have t2' : p < y := t2
      have t3' : y ≤ 65536 := t3
      have HT3 := Lib.hid t4
      have hk1 : (k : Int) < (n : Int) := by omega
      have hk0 : (0 : Int) ≤ (k : Int) := by omega
      have ey : -1 ≤ y := by omega
      have hw1 : IntKind.i64.wrap (y - p) = y - p := IntWalk.i64_in _ (by omega)
      clear hd hp hy HR HT hA t4 t1 t2 t3 HT2
      subst hA'
      by_cases hx : s < y - p
      · have HF := Lib.hid (show R = (p + s, true) by rw [HR2, selZ, if_pos (show s < (p, y).2 - (p, y).1 from hx)])
        clear HR2
        have hd1 : decide (s < y - p) = true := by simp; omega
        have hw2 : IntKind.i64.wrap (p + s) = p + s := IntWalk.i64_in _ (by omega)
        go_wp2_with fail
        go_quiet (fail)
        go_wp2_with fail
        go_ret2
        exact ⟨by rw [HF.out]; rfl, below_drewN HB.out _⟩
      · have HF := Lib.hid (show R = selZ (s - (y - p)) (L.drop (k + 1)) by rw [HR2, selZ, if_neg (show ¬ s < (p, y).2 - (p, y).1 from hx)])
        clear HR2
        have hd1 : decide (s < y - p) = false := by simp; omega
        have hw2 : IntKind.i64.wrap (s - (y - p)) = s - (y - p) := IntWalk.i64_in _ (by omega)
        have e0 : 0 ≤ s - (y - p) := by omega
        have e1 : s - (y - p) ≤ 9223372036854775807 := by omega
        go_wp2_with fail
        go_quiet (fail)
        go_wp2_with fail
        go_roundw
        case rel => exact ⟨k + 1, s - (y - p), y, by omega, by go_num, rfl, e0, e1, ey, HF, HT3, Lib.hid (below_drewN HB.out _)⟩
        case measure => simp [intOf]; omega
    · have HF := Lib.hid (show R = (0, false) by rw [HR.out, List.drop_of_length_le (by have := HZ.out; omega)]; rfl)
      clear HR
      have hk1 : ¬ (k : Int) < (n : Int) := by omega
      go_wp2_with fail
      go_ret2
      exact ⟨by rw [HF.out]; rfl, HB.out⟩
end Go.Proofs.Ytohdkidfhohmlaa
