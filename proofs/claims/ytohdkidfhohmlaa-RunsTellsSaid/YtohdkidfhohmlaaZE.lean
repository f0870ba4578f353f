/- The law RunsTells: its walk. -/
import Derived.Test.YtohdkidfhohmlaaZA
namespace Go.Proofs.Ytohdkidfhohmlaa
open Go.ChangeShapes Go.WideShapes Go.Deep Go.RowKit
set_option linter.unusedSimpArgs false
set_option linter.unusedVariables false
theorem runs_max {H : Type} {enc : TypeId × Value → H} {w : World} {base : Nat} {spare : Nat → Bool} {held : Bool} {A : Option Addr} {len cap fuel : Nat} {x : DataW H × List MemPlace}
    (h : DataW.trod enc Try.prog w base spare held fuel 24 (Value.slice A len cap).cells.toList = some x) : cap ≤ 9223372036854775807 := by
  rcases open_slice Try.underlying24 h with ⟨hcs, _⟩ | ⟨a, l, c, m, n, D, Pl, hcs, _, hl, hm, hmm, _, hi⟩
  · simp [Value.cells] at hcs
    obtain ⟨rfl, rfl, rfl⟩ := hcs
    omega
  · simp [Value.cells] at hcs
    obtain ⟨rfl, rfl, rfl⟩ := hcs
    unfold maxLen at hm; omega
set_option maxRecDepth 100000 in
set_option maxHeartbeats 4000000 in
theorem tells_walk (AX : Option Addr) (nX cX : Nat) (X : List (Int × Int)) (x k : Int) (w : World) (hrX : Row w AX (cellsP X)) (hzX : nX = X.length) (hcX : nX ≤ cX) (x1 : -9223372036854775808 ≤ x) (x2 : x ≤ 9223372036854775807) (k1 : -9223372036854775808 ≤ k) (k2 : k ≤ 9223372036854775807) (hm : cX ≤ 9223372036854775807) :
    Calls Try.prog 4 #[.slice AX nX cX, .int .i64 x, .int .i64 k] w fun e w' => e = .returned (.bool true) ∧ Below w.heap.size w w' := by
  have hbig9 : X.length ≤ 9223372036854775807 := by omega
  subst hzX
  have HRX := Lib.hid hrX
  have HCX := Lib.hid hcX
  clear hrX hcX
  have HB := Lib.hid (Below.refl w.heap.size w)
  by_cases hbig : 3000 < X.length
  · have hb1 : (3000 : Int) < ((X.length : Nat) : Int) := by omega
    go_enter Try.func4, Try.ntmps4
    go_wp2_with fail
    refine (alive_any _).mono ?_
    rintro e w1 ⟨rfl, hB⟩
    replace HRX := Lib.hid (HRX.out.keep (Nat.le_refl _) hB)
    replace HB := Lib.hid (bthen HB.out (hB))
    clear hB
    go_wp2_with fail
    go_ret
    exact ⟨rfl, HB.out⟩
  · have hb1 : ¬ (3000 : Int) < ((X.length : Nat) : Int) := by omega
    obtain ⟨r, hr⟩ : ∃ r, rightB (-1) X = r := ⟨_, rfl⟩
    have HRR := Lib.hid hr
    have HX3 := Lib.hid (show X.length ≤ 3000 by omega)
    by_cases hX : okSet X
    · skip
      have HTX := Lib.hid hX.2.1
      have HOX := Lib.hid ((okB_iff X).2 hX)
      clear hX hr
      obtain ⟨V, hV⟩ : ∃ V, rankZ 65536 X = V := ⟨_, rfl⟩
      have HLL := Lib.hid (show ((listL X).length : Int) = V by rw [listL_rank HTX.out]; exact hV)
      have HV := Lib.hid hV
      obtain ⟨R, hR⟩ : ∃ R, rankZ x X = R := ⟨_, rfl⟩
      obtain ⟨B, hB0⟩ : ∃ B, hasB x X = B := ⟨_, rfl⟩
      obtain ⟨y, hy⟩ : ∃ y, (selF k X).1 = y := ⟨_, rfl⟩
      obtain ⟨s, hs⟩ : ∃ s, (selF k X).2 = s := ⟨_, rfl⟩
      have HR := Lib.hid hR
      have HB0 := Lib.hid hB0
      have HY := Lib.hid hy
      have HS := Lib.hid hs
      obtain ⟨kl, hkl⟩ : ∃ kl, kl = (listL X).length := ⟨_, rfl⟩
      have HKL := Lib.hid hkl
      have hkv : ((V : Int) == (kl : Int)) = true := by rw [hkl, HLL.out]; simp
      clear hV hR hB0 hy hs hkl
      go_enter Try.func4, Try.ntmps4
      go_wp2_with fail
      refine (right_any AX X.length cX X _ HRX.out rfl hbig9).mono ?_
      rintro e w2 ⟨rfl, hB⟩
      rw [HTX.out]
      replace HRX := Lib.hid (HRX.out.keep (Nat.le_refl _) hB)
      replace HB := Lib.hid (bthen HB.out (hB))
      clear hB
      go_wp2_with fail
      refine (rright_any AX X.length cX X _ HRX.out rfl hbig9).mono ?_
      rintro e w3 ⟨rfl, hB⟩
      rw [HTX.out]
      replace HRX := Lib.hid (HRX.out.keep (Nat.le_refl _) hB)
      replace HB := Lib.hid (bthen HB.out (hB))
      clear hB
      go_wp2_with fail
      refine (fits_any AX X.length cX X _ HRX.out rfl).mono ?_
      rintro e w4 ⟨rfl, hB⟩
      rw [HOX.out]
      replace HRX := Lib.hid (HRX.out.keep (Nat.le_refl _) hB)
      replace HB := Lib.hid (bthen HB.out (hB))
      clear hB
      go_wp2_with fail
      refine (select_any AX X.length cX k X _ HRX.out rfl (by have := HX3.out; omega) HTX.out k1 k2).mono ?_
      rintro e w5 ⟨rfl, hB⟩
      rw [HY.out, HS.out]
      replace HRX := Lib.hid (HRX.out.keep (Nat.le_refl _) hB)
      replace HB := Lib.hid (bthen HB.out (hB))
      clear hB
      go_wp2_with fail
      refine (rselect_any AX X.length cX k X _ HRX.out rfl (by have := HX3.out; omega) HTX.out k1 k2).mono ?_
      rintro e w6 ⟨rfl, hB⟩
      rw [HY.out, HS.out]
      replace HRX := Lib.hid (HRX.out.keep (Nat.le_refl _) hB)
      replace HB := Lib.hid (bthen HB.out (hB))
      clear hB
      go_wp2_with fail
      refine (rlist_any AX X.length cX X _ HRX.out rfl (by have := HX3.out; omega) HTX.out).mono ?_
      rintro e w7 ⟨Al, cl, rfl, hrl, hB⟩
      rw [← HKL.out]
      have HLl := Lib.hid hrl
      clear hrl
      replace HRX := Lib.hid (HRX.out.keep (Nat.le_refl _) hB)
      replace HB := Lib.hid (bthen HB.out (hB))
      clear hB
      go_wp2_with fail
      refine (alive_any _).mono ?_
      rintro e w8 ⟨rfl, hB⟩
      replace HLl := Lib.hid (HLl.out.keep (Nat.le_refl _) hB)
      replace HRX := Lib.hid (HRX.out.keep (Nat.le_refl _) hB)
      replace HB := Lib.hid (bthen HB.out (hB))
      clear hB
      go_wp2_with fail
      refine (list_any AX X.length cX X _ HRX.out rfl (by have := HX3.out; omega) HTX.out).mono ?_
      rintro e w9 ⟨Am, cm, rfl, hrm, hB⟩
      rw [← HKL.out]
      have HLm := Lib.hid hrm
      clear hrm
      replace HLl := Lib.hid (HLl.out.keep (Nat.le_refl _) hB)
      replace HRX := Lib.hid (HRX.out.keep (Nat.le_refl _) hB)
      replace HB := Lib.hid (bthen HB.out (hB))
      clear hB
      go_wp2_with fail
      refine (ints_yes Am Al kl cm kl cl (listL X) _ HLm.out HLl.out rfl HKL.out (by have := listL_short HTX.out; have := HKL.out; omega)).mono ?_
      rintro e w10 ⟨rfl, hB⟩
      replace HRX := Lib.hid (HRX.out.keep (Nat.le_refl _) hB)
      replace HB := Lib.hid (bthen HB.out (hB))
      clear hB
      go_wp2_with fail
      refine (count_any AX X.length cX X _ HRX.out rfl (by have := HX3.out; omega) HTX.out).mono ?_
      rintro e w11 ⟨rfl, hB⟩
      rw [HV.out]
      replace HRX := Lib.hid (HRX.out.keep (Nat.le_refl _) hB)
      replace HB := Lib.hid (bthen HB.out (hB))
      clear hB
      go_wp2_with fail
      refine (has_any AX X.length cX x X _ HRX.out rfl hbig9).mono ?_
      rintro e w12 ⟨rfl, hB⟩
      rw [HB0.out]
      replace HRX := Lib.hid (HRX.out.keep (Nat.le_refl _) hB)
      replace HB := Lib.hid (bthen HB.out (hB))
      clear hB
      go_wp2_with fail
      refine (rhas_any AX X.length cX x X _ HRX.out rfl hbig9).mono ?_
      rintro e w13 ⟨rfl, hB⟩
      rw [HB0.out]
      replace HRX := Lib.hid (HRX.out.keep (Nat.le_refl _) hB)
      replace HB := Lib.hid (bthen HB.out (hB))
      clear hB
      have hbb : (B == B) = true := by simp
      go_wp2_with fail
      refine (rank_any AX X.length cX x X _ HRX.out rfl (by have := HX3.out; omega) HTX.out).mono ?_
      rintro e w14 ⟨rfl, hB⟩
      rw [HR.out]
      replace HRX := Lib.hid (HRX.out.keep (Nat.le_refl _) hB)
      replace HB := Lib.hid (bthen HB.out (hB))
      clear hB
      go_wp2_with fail
      refine (rrank_any AX X.length cX x X _ HRX.out rfl (by have := HX3.out; omega) HTX.out).mono ?_
      rintro e w15 ⟨rfl, hB⟩
      rw [HR.out]
      replace HRX := Lib.hid (HRX.out.keep (Nat.le_refl _) hB)
      replace HB := Lib.hid (bthen HB.out (hB))
      clear hB
      go_wp2_with fail
      go_ret
      exact ⟨rfl, HB.out⟩
    · have HOX := Lib.hid (show okB X = false by cases hb : okB X with | true => exact absurd ((okB_iff X).1 hb) hX | false => rfl)
      clear hX hr
      go_enter Try.func4, Try.ntmps4
      go_wp2_with fail
      refine (right_any AX X.length cX X _ HRX.out rfl hbig9).mono ?_
      rintro e w16 ⟨rfl, hB⟩
      rw [HRR.out]
      replace HRX := Lib.hid (HRX.out.keep (Nat.le_refl _) hB)
      replace HB := Lib.hid (bthen HB.out (hB))
      clear hB
      go_wp2_with fail
      refine (rright_any AX X.length cX X _ HRX.out rfl hbig9).mono ?_
      rintro e w17 ⟨rfl, hB⟩
      rw [HRR.out]
      replace HRX := Lib.hid (HRX.out.keep (Nat.le_refl _) hB)
      replace HB := Lib.hid (bthen HB.out (hB))
      clear hB
      have hrr : (r != r) = false := by simp
      go_wp2_with fail
      refine (fits_any AX X.length cX X _ HRX.out rfl).mono ?_
      rintro e w18 ⟨rfl, hB⟩
      rw [HOX.out]
      replace HRX := Lib.hid (HRX.out.keep (Nat.le_refl _) hB)
      replace HB := Lib.hid (bthen HB.out (hB))
      clear hB
      go_wp2_with fail
      refine (alive_any _).mono ?_
      rintro e w19 ⟨rfl, hB⟩
      replace HRX := Lib.hid (HRX.out.keep (Nat.le_refl _) hB)
      replace HB := Lib.hid (bthen HB.out (hB))
      clear hB
      go_wp2_with fail
      go_ret
      exact ⟨rfl, HB.out⟩
end Go.Proofs.Ytohdkidfhohmlaa
