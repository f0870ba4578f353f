/- Is a set asked about? -/
import Derived.Test.YtohdkidfhohmlaaG
namespace Go.Proofs.Ytohdkidfhohmlaa
open Go.RowKit
set_option linter.unusedSimpArgs false
set_option linter.unusedVariables false
/-- A set that the laws ask about. -/
def okSet (L : List (Int × Int)) : Prop := L.length ≤ 3000 ∧ rightB (-1) L = true ∧ rankZ 65536 L ≤ 3000
set_option maxRecDepth 100000 in
set_option maxHeartbeats 1000000 in
theorem fits_yes (A : Option Addr) (n c : Nat) (L : List (Int × Int)) (w : World) (hA : Row w A (cellsP L)) (hz : n = L.length) (h : okSet L) :
    Calls Try.prog 19 #[.slice A n c] w fun e w' => e = .returned (.bool true) ∧ Below w.heap.size w w' := by
  have HZ := Lib.hid hz
  obtain ⟨h1, h2, h3⟩ := h
  have HRT := Lib.hid h2
  obtain ⟨V, hV⟩ : ∃ V, rankZ 65536 L = V := ⟨_, rfl⟩
  rw [hV] at h3
  have HV := Lib.hid hV
  have hn : n ≤ 3000 := by omega
  have hd1 : decide ((3000 : Int) < (n : Int)) = false := by simp; omega
  have hd2 : decide (V ≤ 3000) = true := by simp; omega
  clear hz h1 h2 hV
  go_enter Try.func19, Try.ntmps19
  go_wp2_with fail
  refine (rright_any A n c L _ hA HZ.out (by omega)).mono ?_
  rintro e w1 ⟨rfl, hB1⟩
  rw [HRT.out]
  have HB1 := Lib.hid hB1
  have hA1 := hA.keep (Nat.le_refl _) hB1
  clear hA hB1
  go_wp2_with fail
  refine (rrank_any A n c 65536 L _ hA1 HZ.out (by omega) HRT.out).mono ?_
  rintro e w2 ⟨rfl, hB2⟩
  rw [HV.out]
  have HB2 := Lib.hid (bthen HB1.out hB2)
  clear hA1 hB2
  go_wp2_with fail
  go_ret
  exact ⟨rfl, HB2.out⟩
set_option maxRecDepth 100000 in
set_option maxHeartbeats 1000000 in
theorem fits_no (A : Option Addr) (n c : Nat) (L : List (Int × Int)) (w : World) (hA : Row w A (cellsP L)) (hz : n = L.length) (h : ¬ okSet L) :
    Calls Try.prog 19 #[.slice A n c] w fun e w' => e = .returned (.bool false) ∧ Below w.heap.size w w' := by
  have HZ := Lib.hid hz
  have HN := Lib.hid h
  clear hz h
  by_cases hn : 3000 < n
  · have hd1 : decide ((3000 : Int) < (n : Int)) = true := by simp; omega
    go_enter Try.func19, Try.ntmps19
    go_wp2_with fail
    go_ret
    exact ⟨rfl, Below.refl _ _⟩
  · have hd1 : decide ((3000 : Int) < (n : Int)) = false := by simp; omega
    by_cases hr : rightB (-1) L = true
    · have HRT := Lib.hid hr
      obtain ⟨V, hV⟩ : ∃ V, rankZ 65536 L = V := ⟨_, rfl⟩
      have HV := Lib.hid hV
      have hV3 : 3000 < V := by
        rcases Int.lt_or_le 3000 V with h | h
        · exact h
        · exact absurd ⟨by have := HZ.out; omega, hr, by rw [hV]; exact h⟩ HN.out
      have hd2 : decide (V ≤ 3000) = false := by simp; omega
      clear hr hV
      go_enter Try.func19, Try.ntmps19
      go_wp2_with fail
      refine (rright_any A n c L _ hA HZ.out (by omega)).mono ?_
      rintro e w1 ⟨rfl, hB1⟩
      rw [HRT.out]
      have HB1 := Lib.hid hB1
      have hA1 := hA.keep (Nat.le_refl _) hB1
      clear hA hB1
      go_wp2_with fail
      refine (rrank_any A n c 65536 L _ hA1 HZ.out (by omega) HRT.out).mono ?_
      rintro e w2 ⟨rfl, hB2⟩
      rw [HV.out]
      have HB2 := Lib.hid (bthen HB1.out hB2)
      clear hA1 hB2
      go_wp2_with fail
      go_ret
      exact ⟨rfl, HB2.out⟩
    · have HRT := Lib.hid (show rightB (-1) L = false by simpa using hr)
      clear hr
      go_enter Try.func19, Try.ntmps19
      go_wp2_with fail
      refine (rright_any A n c L _ hA HZ.out (by omega)).mono ?_
      rintro e w1 ⟨rfl, hB1⟩
      rw [HRT.out]
      have HB1 := Lib.hid hB1
      clear hA hB1
      go_wp2_with fail
      go_ret
      exact ⟨rfl, HB1.out⟩
end Go.Proofs.Ytohdkidfhohmlaa
