/- Rows of stretches; a right set; how many lie below a number. -/
import Derived.Test.YtohdkidfhohmlaaA
namespace Go.Proofs.Ytohdkidfhohmlaa
open Go.RowKit
set_option linter.unusedSimpArgs false
set_option linter.unusedVariables false
/-- The cells of stretches. -/
def cellsP (L : List (Int × Int)) : List Value := L.flatMap fun p => [.int .i64 p.1, .int .i64 p.2]
theorem cellsP_cons (p : Int × Int) (L : List (Int × Int)) : cellsP (p :: L) = .int .i64 p.1 :: .int .i64 p.2 :: cellsP L := by simp [cellsP]
theorem cellsP_app (L M : List (Int × Int)) : cellsP (L ++ M) = cellsP L ++ cellsP M := by simp [cellsP]
theorem cellsP_length : ∀ L : List (Int × Int), (cellsP L).length = L.length * 2 := by
  intro L
  induction L with
  | nil => rfl
  | cons p L ih => rw [cellsP_cons, List.length_cons, List.length_cons, ih, List.length_cons]; omega
theorem cellsP_get : ∀ (L : List (Int × Int)) (k : Nat) (h : k < L.length), (cellsP L)[k * 2]? = some (.int .i64 L[k].1) ∧ (cellsP L)[k * 2 + 1]? = some (.int .i64 L[k].2) := by
  intro L
  induction L with
  | nil => intro k h; simp at h
  | cons p L ih =>
    intro k h
    rw [cellsP_cons]
    cases k with
    | zero => exact ⟨rfl, rfl⟩
    | succ k =>
      have := ih k (by simpa using h)
      rw [show (k + 1) * 2 = k * 2 + 2 by omega]
      exact ⟨by simpa using this.1, by simpa using this.2⟩
theorem Row.at2 {w : World} {A : Option Addr} {L : List (Int × Int)} {k : Nat} (h : Row w A (cellsP L)) (hk : k < L.length) :
    ∃ b off, A = some ⟨b, off, none⟩ ∧ w.cell? ⟨b, off + k * 2, none⟩ = some (.int .i64 L[k].1) ∧ w.cell? ⟨b, off + k * 2 + 1, none⟩ = some (.int .i64 L[k].2) := by
  rcases h with h | ⟨b, off, rfl, hc⟩
  · have := cellsP_length L; rw [h] at this; simp at this; omega
  · obtain ⟨h1, h2⟩ := cellsP_get L k hk
    exact ⟨b, off, rfl, hc _ _ h1, by have := hc _ _ h2; rwa [← Nat.add_assoc] at this⟩
/-- Is a set right, behind a number? -/
def rightB : Int → List (Int × Int) → Bool
  | _, [] => true
  | b, p :: L => if p.1 ≤ b ∨ p.2 ≤ p.1 ∨ 65536 < p.2 then false else rightB p.2 L
theorem right_bad {b : Int} {p : Int × Int} {L : List (Int × Int)} (h : p.1 ≤ b ∨ p.2 ≤ p.1 ∨ 65536 < p.2) : rightB b (p :: L) = false := by rw [rightB, if_pos h]
theorem right_ok {b : Int} {p : Int × Int} {L : List (Int × Int)} (h : ¬ (p.1 ≤ b ∨ p.2 ≤ p.1 ∨ 65536 < p.2)) : rightB b (p :: L) = rightB p.2 L := by rw [rightB, if_neg h]
/-- Stretches whose ends are within an int. -/
def okP (L : List (Int × Int)) : Prop := ∀ p ∈ L, (-9223372036854775808 ≤ p.1 ∧ p.1 ≤ 9223372036854775807) ∧ (-9223372036854775808 ≤ p.2 ∧ p.2 ≤ 9223372036854775807)
set_option maxRecDepth 100000 in
set_option maxHeartbeats 1000000 in
theorem right_any (A : Option Addr) (n c : Nat) (L : List (Int × Int)) (w : World) (hA : Row w A (cellsP L)) (hz : n = L.length) (hn : n ≤ 9223372036854775807) :
    Calls Try.prog 17 #[.slice A n c] w fun e w' => e = .returned (.bool (rightB (-1) L)) ∧ Below w.heap.size w w' := by
  have HZ := Lib.hid hz
  obtain ⟨R, hR⟩ : ∃ R, R = rightB (-1) L := ⟨_, rfl⟩
  rw [← hR]
  have HR := Lib.hid hR
  clear hz hR
  go_enter Try.func17, Try.ntmps17
  go_wp2_with fail
  go_loopw [3, 8] (fun b i wr => ∃ (k : Nat) (z : Int), k ≤ n ∧ i = .int .i64 k ∧ b = .int .i64 z ∧ Hid (R = rightB z (L.drop k)) ∧ Hid (Below w.heap.size w wr)) (fun _ i _ => n - (intOf i).toNat)
  case atStart => exact ⟨0, -1, by omega, rfl, rfl, HR, Lib.hid (Below.refl _ _)⟩
  case round =>
    clear HR
    obtain ⟨k, z, hk, rfl, rfl, HR, HB⟩ := hrel
    by_cases hlt : k < n
    · have hkz : k < L.length := by have := HZ.out; omega
      obtain ⟨b, off, hA', c0, c1⟩ := (hA.keep (Nat.le_refl _) HB.out).at2 hkz
      obtain ⟨x, hx⟩ : ∃ x, x = L[k].1 := ⟨_, rfl⟩
      obtain ⟨y, hy⟩ : ∃ y, y = L[k].2 := ⟨_, rfl⟩
      have hd : L.drop k = (x, y) :: L.drop (k + 1) := by rw [hx, hy]; exact List.drop_eq_getElem_cons hkz
      rw [← hx] at c0
      rw [← hy] at c1
      have HR2 := HR.out
      rw [hd] at HR2
      have hk1 : (k : Int) < (n : Int) := by omega
      have hk0 : (0 : Int) ≤ (k : Int) := by omega
      clear hd hx hy HR hA
      subst hA'
      by_cases hbad : x ≤ z ∨ y ≤ x ∨ 65536 < y
      · rw [right_bad hbad] at HR2
        have HF := Lib.hid HR2
        clear HR2
        by_cases h1 : x ≤ z
        · go_wp2_with fail
          go_ret
          exact ⟨by rw [HF.out]; rfl, bpush HB.out _⟩
        · by_cases h2 : y ≤ x
          · go_wp2_with fail
            go_ret
            exact ⟨by rw [HF.out]; rfl, bpush HB.out _⟩
          · have h3 : 65536 < y := by omega
            go_wp2_with fail
            go_ret
            exact ⟨by rw [HF.out]; rfl, bpush HB.out _⟩
      · rw [right_ok hbad] at HR2
        have HF := Lib.hid HR2
        clear HR2
        have h1 : ¬ x ≤ z := by omega
        have h2 : ¬ y ≤ x := by omega
        have h3 : ¬ 65536 < y := by omega
        clear hbad
        go_wp2_with fail
        go_roundw
        case rel => exact ⟨k + 1, y, by omega, by go_num, rfl, HF, Lib.hid (bpush HB.out _)⟩
        case measure => simp [intOf]; omega
    · have HF := Lib.hid (show R = true by rw [HR.out, List.drop_of_length_le (by have := HZ.out; omega)]; rfl)
      clear HR
      have hk1 : ¬ (k : Int) < (n : Int) := by omega
      go_wp2_with fail
      go_ret
      exact ⟨by rw [HF.out]; rfl, HB.out⟩
end Go.Proofs.Ytohdkidfhohmlaa
