/- The law RunsLaws: its walk. -/
import Derived.Test.YtohdkidfhohmlaaZA
namespace Go.Proofs.Ytohdkidfhohmlaa
open Go.RowKit
set_option linter.unusedSimpArgs false
set_option linter.unusedVariables false
set_option maxRecDepth 100000 in
set_option maxHeartbeats 4000000 in
theorem laws_walk (AX : Option Addr) (nX cX : Nat) (X : List (Int × Int)) (AY : Option Addr) (nY cY : Nat) (Y : List (Int × Int)) (AZ : Option Addr) (nZ cZ : Nat) (Z : List (Int × Int)) (w : World) (hrX : Row w AX (cellsP X)) (hzX : nX = X.length) (hcX : nX ≤ cX) (hrY : Row w AY (cellsP Y)) (hzY : nY = Y.length) (hcY : nY ≤ cY) (hrZ : Row w AZ (cellsP Z)) (hzZ : nZ = Z.length) (hcZ : nZ ≤ cZ) :
    Calls Try.prog 6 #[.slice AX nX cX, .slice AY nY cY, .slice AZ nZ cZ] w fun e w' => e = .returned (.bool true) ∧ Below w.heap.size w w' := by
  subst hzX
  have HRX := Lib.hid hrX
  have HCX := Lib.hid hcX
  clear hrX hcX
  subst hzY
  have HRY := Lib.hid hrY
  have HCY := Lib.hid hcY
  clear hrY hcY
  subst hzZ
  have HRZ := Lib.hid hrZ
  have HCZ := Lib.hid hcZ
  clear hrZ hcZ
  have HB := Lib.hid (Below.refl w.heap.size w)
  by_cases hall : okSet X ∧ okSet Y ∧ okSet Z
  · obtain ⟨hX, hY, hZ⟩ := hall
    have HTX := Lib.hid hX.2.1
    have HOX := Lib.hid ((okB_iff X).2 hX)
    have HTY := Lib.hid hY.2.1
    have HOY := Lib.hid ((okB_iff Y).2 hY)
    have HTZ := Lib.hid hZ.2.1
    have HOZ := Lib.hid ((okB_iff Z).2 hZ)
    clear hX hY hZ
    go_enter Try.func6, Try.ntmps6
    go_wp2_with fail
    refine (fits_any AX X.length cX X _ HRX.out rfl).mono ?_
    rintro e w1 ⟨rfl, hB⟩
    rw [HOX.out]
    replace HRX := Lib.hid (HRX.out.keep (Nat.le_refl _) hB)
    replace HRY := Lib.hid (HRY.out.keep (Nat.le_refl _) hB)
    replace HRZ := Lib.hid (HRZ.out.keep (Nat.le_refl _) hB)
    replace HB := Lib.hid (bthen HB.out (hB))
    clear hB
    go_wp2_with fail
    refine (fits_any AY Y.length cY Y _ HRY.out rfl).mono ?_
    rintro e w2 ⟨rfl, hB⟩
    rw [HOY.out]
    replace HRX := Lib.hid (HRX.out.keep (Nat.le_refl _) hB)
    replace HRY := Lib.hid (HRY.out.keep (Nat.le_refl _) hB)
    replace HRZ := Lib.hid (HRZ.out.keep (Nat.le_refl _) hB)
    replace HB := Lib.hid (bthen HB.out (hB))
    clear hB
    go_wp2_with fail
    refine (fits_any AZ Z.length cZ Z _ HRZ.out rfl).mono ?_
    rintro e w3 ⟨rfl, hB⟩
    rw [HOZ.out]
    replace HRX := Lib.hid (HRX.out.keep (Nat.le_refl _) hB)
    replace HRY := Lib.hid (HRY.out.keep (Nat.le_refl _) hB)
    replace HRZ := Lib.hid (HRZ.out.keep (Nat.le_refl _) hB)
    replace HB := Lib.hid (bthen HB.out (hB))
    clear hB
    go_wp2_with fail
    refine (and_any AX AY X.length cX Y.length cY X Y _ HRX.out HRY.out rfl rfl HCX.out HCY.out HTX.out HTY.out).mono ?_
    rintro e w4 ⟨La, Aa, ca, rfl, hra, hla, hga, hha, hB⟩
    have HRa := Lib.hid hra
    have HCa := Lib.hid hla
    have HTa := Lib.hid hga
    have HHa := Lib.hid hha
    clear hra hla hga hha
    replace HRX := Lib.hid (HRX.out.keep (Nat.le_refl _) hB)
    replace HRY := Lib.hid (HRY.out.keep (Nat.le_refl _) hB)
    replace HRZ := Lib.hid (HRZ.out.keep (Nat.le_refl _) hB)
    replace HB := Lib.hid (bthen HB.out (hB))
    clear hB
    go_wp2_with fail
    refine (and_any AY AX Y.length cY X.length cX Y X _ HRY.out HRX.out rfl rfl HCY.out HCX.out HTY.out HTX.out).mono ?_
    rintro e w5 ⟨Lb, Ab, cb, rfl, hrb, hlb, hgb, hhb, hB⟩
    have HRb := Lib.hid hrb
    have HCb := Lib.hid hlb
    have HTb := Lib.hid hgb
    have HHb := Lib.hid hhb
    clear hrb hlb hgb hhb
    replace HRX := Lib.hid (HRX.out.keep (Nat.le_refl _) hB)
    replace HRY := Lib.hid (HRY.out.keep (Nat.le_refl _) hB)
    replace HRZ := Lib.hid (HRZ.out.keep (Nat.le_refl _) hB)
    replace HRa := Lib.hid (HRa.out.keep (Nat.le_refl _) hB)
    replace HB := Lib.hid (bthen HB.out (hB))
    clear hB
    go_wp2_with fail
    obtain rfl : La = Lb := right_ext HTa.out HTb.out (fun x => by rw [HHa.out, HHb.out]; unfold TT; exact Bool.and_comm _ _)
    refine (same_yes Aa Ab La.length ca La.length cb La _ HRa.out HRb.out rfl rfl (by have := right_length HTa.out; omega)).mono ?_
    rintro e w7 ⟨rfl, hB⟩
    replace HRX := Lib.hid (HRX.out.keep (Nat.le_refl _) hB)
    replace HRY := Lib.hid (HRY.out.keep (Nat.le_refl _) hB)
    replace HRZ := Lib.hid (HRZ.out.keep (Nat.le_refl _) hB)
    replace HRa := Lib.hid (HRa.out.keep (Nat.le_refl _) hB)
    replace HRb := Lib.hid (HRb.out.keep (Nat.le_refl _) hB)
    replace HB := Lib.hid (bthen HB.out (hB))
    clear hB
    go_wp2_with fail
    clear HRb HCb HTb HHb
    refine (or_any AX AY X.length cX Y.length cY X Y _ HRX.out HRY.out rfl rfl HCX.out HCY.out HTX.out HTY.out).mono ?_
    rintro e w8 ⟨Ld, Ad, cd, rfl, hrd, hld, hgd, hhd, hB⟩
    have HRd := Lib.hid hrd
    have HCd := Lib.hid hld
    have HTd := Lib.hid hgd
    have HHd := Lib.hid hhd
    clear hrd hld hgd hhd
    replace HRX := Lib.hid (HRX.out.keep (Nat.le_refl _) hB)
    replace HRY := Lib.hid (HRY.out.keep (Nat.le_refl _) hB)
    replace HRZ := Lib.hid (HRZ.out.keep (Nat.le_refl _) hB)
    replace HRa := Lib.hid (HRa.out.keep (Nat.le_refl _) hB)
    replace HB := Lib.hid (bthen HB.out (hB))
    clear hB
    go_wp2_with fail
    refine (or_any AY AX Y.length cY X.length cX Y X _ HRY.out HRX.out rfl rfl HCY.out HCX.out HTY.out HTX.out).mono ?_
    rintro e w9 ⟨Le, Ae, ce, rfl, hre, hle, hge, hhe, hB⟩
    have HRe := Lib.hid hre
    have HCe := Lib.hid hle
    have HTe := Lib.hid hge
    have HHe := Lib.hid hhe
    clear hre hle hge hhe
    replace HRX := Lib.hid (HRX.out.keep (Nat.le_refl _) hB)
    replace HRY := Lib.hid (HRY.out.keep (Nat.le_refl _) hB)
    replace HRZ := Lib.hid (HRZ.out.keep (Nat.le_refl _) hB)
    replace HRa := Lib.hid (HRa.out.keep (Nat.le_refl _) hB)
    replace HRd := Lib.hid (HRd.out.keep (Nat.le_refl _) hB)
    replace HB := Lib.hid (bthen HB.out (hB))
    clear hB
    go_wp2_with fail
    obtain rfl : Ld = Le := right_ext HTd.out HTe.out (fun x => by rw [HHd.out, HHe.out]; unfold TO; exact Bool.or_comm _ _)
    refine (same_yes Ad Ae Ld.length cd Ld.length ce Ld _ HRd.out HRe.out rfl rfl (by have := right_length HTd.out; omega)).mono ?_
    rintro e w11 ⟨rfl, hB⟩
    replace HRX := Lib.hid (HRX.out.keep (Nat.le_refl _) hB)
    replace HRY := Lib.hid (HRY.out.keep (Nat.le_refl _) hB)
    replace HRZ := Lib.hid (HRZ.out.keep (Nat.le_refl _) hB)
    replace HRa := Lib.hid (HRa.out.keep (Nat.le_refl _) hB)
    replace HRd := Lib.hid (HRd.out.keep (Nat.le_refl _) hB)
    replace HRe := Lib.hid (HRe.out.keep (Nat.le_refl _) hB)
    replace HB := Lib.hid (bthen HB.out (hB))
    clear hB
    go_wp2_with fail
    clear HRe HCe HTe HHe
    clear HRd HCd HTd HHd
    clear HRa HCa HTa HHa
    refine (or_any AY AZ Y.length cY Z.length cZ Y Z _ HRY.out HRZ.out rfl rfl HCY.out HCZ.out HTY.out HTZ.out).mono ?_
    rintro e w12 ⟨La, Aa, ca, rfl, hra, hla, hga, hha, hB⟩
    have HRa := Lib.hid hra
    have HCa := Lib.hid hla
    have HTa := Lib.hid hga
    have HHa := Lib.hid hha
    clear hra hla hga hha
    replace HRX := Lib.hid (HRX.out.keep (Nat.le_refl _) hB)
    replace HRY := Lib.hid (HRY.out.keep (Nat.le_refl _) hB)
    replace HRZ := Lib.hid (HRZ.out.keep (Nat.le_refl _) hB)
    replace HB := Lib.hid (bthen HB.out (hB))
    clear hB
    go_wp2_with fail
    refine (and_any AX Aa X.length cX La.length ca X La _ HRX.out HRa.out rfl rfl HCX.out HCa.out HTX.out HTa.out).mono ?_
    rintro e w13 ⟨Lb, Ab, cb, rfl, hrb, hlb, hgb, hhb, hB⟩
    have HRb := Lib.hid hrb
    have HCb := Lib.hid hlb
    have HTb := Lib.hid hgb
    have HHb := Lib.hid hhb
    clear hrb hlb hgb hhb
    replace HRX := Lib.hid (HRX.out.keep (Nat.le_refl _) hB)
    replace HRY := Lib.hid (HRY.out.keep (Nat.le_refl _) hB)
    replace HRZ := Lib.hid (HRZ.out.keep (Nat.le_refl _) hB)
    replace HRa := Lib.hid (HRa.out.keep (Nat.le_refl _) hB)
    replace HB := Lib.hid (bthen HB.out (hB))
    clear hB
    go_wp2_with fail
    refine (and_any AX AY X.length cX Y.length cY X Y _ HRX.out HRY.out rfl rfl HCX.out HCY.out HTX.out HTY.out).mono ?_
    rintro e w14 ⟨Ld, Ad, cd, rfl, hrd, hld, hgd, hhd, hB⟩
    have HRd := Lib.hid hrd
    have HCd := Lib.hid hld
    have HTd := Lib.hid hgd
    have HHd := Lib.hid hhd
    clear hrd hld hgd hhd
    replace HRX := Lib.hid (HRX.out.keep (Nat.le_refl _) hB)
    replace HRY := Lib.hid (HRY.out.keep (Nat.le_refl _) hB)
    replace HRZ := Lib.hid (HRZ.out.keep (Nat.le_refl _) hB)
    replace HRa := Lib.hid (HRa.out.keep (Nat.le_refl _) hB)
    replace HRb := Lib.hid (HRb.out.keep (Nat.le_refl _) hB)
    replace HB := Lib.hid (bthen HB.out (hB))
    clear hB
    go_wp2_with fail
    refine (and_any AX AZ X.length cX Z.length cZ X Z _ HRX.out HRZ.out rfl rfl HCX.out HCZ.out HTX.out HTZ.out).mono ?_
    rintro e w15 ⟨Le, Ae, ce, rfl, hre, hle, hge, hhe, hB⟩
    have HRe := Lib.hid hre
    have HCe := Lib.hid hle
    have HTe := Lib.hid hge
    have HHe := Lib.hid hhe
    clear hre hle hge hhe
    replace HRX := Lib.hid (HRX.out.keep (Nat.le_refl _) hB)
    replace HRY := Lib.hid (HRY.out.keep (Nat.le_refl _) hB)
    replace HRZ := Lib.hid (HRZ.out.keep (Nat.le_refl _) hB)
    replace HRa := Lib.hid (HRa.out.keep (Nat.le_refl _) hB)
    replace HRb := Lib.hid (HRb.out.keep (Nat.le_refl _) hB)
    replace HRd := Lib.hid (HRd.out.keep (Nat.le_refl _) hB)
    replace HB := Lib.hid (bthen HB.out (hB))
    clear hB
    go_wp2_with fail
    refine (or_any Ad Ae Ld.length cd Le.length ce Ld Le _ HRd.out HRe.out rfl rfl HCd.out HCe.out HTd.out HTe.out).mono ?_
    rintro e w16 ⟨Lf, Af, cf, rfl, hrf, hlf, hgf, hhf, hB⟩
    have HRf := Lib.hid hrf
    have HCf := Lib.hid hlf
    have HTf := Lib.hid hgf
    have HHf := Lib.hid hhf
    clear hrf hlf hgf hhf
    replace HRX := Lib.hid (HRX.out.keep (Nat.le_refl _) hB)
    replace HRY := Lib.hid (HRY.out.keep (Nat.le_refl _) hB)
    replace HRZ := Lib.hid (HRZ.out.keep (Nat.le_refl _) hB)
    replace HRa := Lib.hid (HRa.out.keep (Nat.le_refl _) hB)
    replace HRb := Lib.hid (HRb.out.keep (Nat.le_refl _) hB)
    replace HRd := Lib.hid (HRd.out.keep (Nat.le_refl _) hB)
    replace HRe := Lib.hid (HRe.out.keep (Nat.le_refl _) hB)
    replace HB := Lib.hid (bthen HB.out (hB))
    clear hB
    go_wp2_with fail
    obtain rfl : Lb = Lf := right_ext HTb.out HTf.out (fun x => by rw [HHb.out, HHa.out, HHf.out, HHd.out, HHe.out]; unfold TT TO; cases hasB x X <;> cases hasB x Y <;> cases hasB x Z <;> rfl)
    refine (same_yes Ab Af Lb.length cb Lb.length cf Lb _ HRb.out HRf.out rfl rfl (by have := right_length HTb.out; omega)).mono ?_
    rintro e w18 ⟨rfl, hB⟩
    replace HRX := Lib.hid (HRX.out.keep (Nat.le_refl _) hB)
    replace HRY := Lib.hid (HRY.out.keep (Nat.le_refl _) hB)
    replace HRZ := Lib.hid (HRZ.out.keep (Nat.le_refl _) hB)
    replace HRa := Lib.hid (HRa.out.keep (Nat.le_refl _) hB)
    replace HRb := Lib.hid (HRb.out.keep (Nat.le_refl _) hB)
    replace HRd := Lib.hid (HRd.out.keep (Nat.le_refl _) hB)
    replace HRe := Lib.hid (HRe.out.keep (Nat.le_refl _) hB)
    replace HRf := Lib.hid (HRf.out.keep (Nat.le_refl _) hB)
    replace HB := Lib.hid (bthen HB.out (hB))
    clear hB
    go_wp2_with fail
    clear HRf HCf HTf HHf
    clear HRb HCb HTb HHb
    clear HRe HCe HTe HHe
    clear HRd HCd HTd HHd
    clear HRa HCa HTa HHa
    refine (minus_any AX AY X.length cX Y.length cY X Y _ HRX.out HRY.out rfl rfl HCX.out HCY.out HTX.out HTY.out).mono ?_
    rintro e w19 ⟨La, Aa, ca, rfl, hra, hla, hga, hha, hB⟩
    have HRa := Lib.hid hra
    have HCa := Lib.hid hla
    have HTa := Lib.hid hga
    have HHa := Lib.hid hha
    clear hra hla hga hha
    replace HRX := Lib.hid (HRX.out.keep (Nat.le_refl _) hB)
    replace HRY := Lib.hid (HRY.out.keep (Nat.le_refl _) hB)
    replace HRZ := Lib.hid (HRZ.out.keep (Nat.le_refl _) hB)
    replace HB := Lib.hid (bthen HB.out (hB))
    clear hB
    go_wp2_with fail
    refine (and_any AX AY X.length cX Y.length cY X Y _ HRX.out HRY.out rfl rfl HCX.out HCY.out HTX.out HTY.out).mono ?_
    rintro e w20 ⟨Lb, Ab, cb, rfl, hrb, hlb, hgb, hhb, hB⟩
    have HRb := Lib.hid hrb
    have HCb := Lib.hid hlb
    have HTb := Lib.hid hgb
    have HHb := Lib.hid hhb
    clear hrb hlb hgb hhb
    replace HRX := Lib.hid (HRX.out.keep (Nat.le_refl _) hB)
    replace HRY := Lib.hid (HRY.out.keep (Nat.le_refl _) hB)
    replace HRZ := Lib.hid (HRZ.out.keep (Nat.le_refl _) hB)
    replace HRa := Lib.hid (HRa.out.keep (Nat.le_refl _) hB)
    replace HB := Lib.hid (bthen HB.out (hB))
    clear hB
    go_wp2_with fail
    refine (or_any Aa Ab La.length ca Lb.length cb La Lb _ HRa.out HRb.out rfl rfl HCa.out HCb.out HTa.out HTb.out).mono ?_
    rintro e w21 ⟨Ld, Ad, cd, rfl, hrd, hld, hgd, hhd, hB⟩
    have HRd := Lib.hid hrd
    have HCd := Lib.hid hld
    have HTd := Lib.hid hgd
    have HHd := Lib.hid hhd
    clear hrd hld hgd hhd
    replace HRX := Lib.hid (HRX.out.keep (Nat.le_refl _) hB)
    replace HRY := Lib.hid (HRY.out.keep (Nat.le_refl _) hB)
    replace HRZ := Lib.hid (HRZ.out.keep (Nat.le_refl _) hB)
    replace HRa := Lib.hid (HRa.out.keep (Nat.le_refl _) hB)
    replace HRb := Lib.hid (HRb.out.keep (Nat.le_refl _) hB)
    replace HB := Lib.hid (bthen HB.out (hB))
    clear hB
    go_wp2_with fail
    obtain rfl : X = Ld := right_ext HTX.out HTd.out (fun x => by rw [HHd.out, HHa.out, HHb.out]; unfold TT TO TM; cases hasB x X <;> cases hasB x Y <;> rfl)
    refine (same_yes Ad AX X.length cd X.length cX X _ HRd.out HRX.out rfl rfl (by have := right_length HTd.out; omega)).mono ?_
    rintro e w23 ⟨rfl, hB⟩
    replace HRX := Lib.hid (HRX.out.keep (Nat.le_refl _) hB)
    replace HRY := Lib.hid (HRY.out.keep (Nat.le_refl _) hB)
    replace HRZ := Lib.hid (HRZ.out.keep (Nat.le_refl _) hB)
    replace HRa := Lib.hid (HRa.out.keep (Nat.le_refl _) hB)
    replace HRb := Lib.hid (HRb.out.keep (Nat.le_refl _) hB)
    replace HRd := Lib.hid (HRd.out.keep (Nat.le_refl _) hB)
    replace HB := Lib.hid (bthen HB.out (hB))
    clear hB
    go_wp2_with fail
    clear HRd HCd HTd HHd
    clear HRb HCb HTb HHb
    clear HRa HCa HTa HHa
    refine (minus_any AX AX X.length cX X.length cX X X _ HRX.out HRX.out rfl rfl HCX.out HCX.out HTX.out HTX.out).mono ?_
    rintro e w24 ⟨La, Aa, ca, rfl, hra, hla, hga, hha, hB⟩
    have HRa := Lib.hid hra
    have HCa := Lib.hid hla
    have HTa := Lib.hid hga
    have HHa := Lib.hid hha
    clear hra hla hga hha
    replace HRX := Lib.hid (HRX.out.keep (Nat.le_refl _) hB)
    replace HRY := Lib.hid (HRY.out.keep (Nat.le_refl _) hB)
    replace HRZ := Lib.hid (HRZ.out.keep (Nat.le_refl _) hB)
    replace HB := Lib.hid (bthen HB.out (hB))
    clear hB
    obtain rfl : ([] : List (Int × Int)) = La := right_ext rfl HTa.out (fun x => by rw [HHa.out]; unfold TM; cases hasB x X <;> rfl)
    clear HRa HCa HTa HHa
    go_wp2_with fail
    refine (and_any AX AX X.length cX X.length cX X X _ HRX.out HRX.out rfl rfl HCX.out HCX.out HTX.out HTX.out).mono ?_
    rintro e w25 ⟨La, Aa, ca, rfl, hra, hla, hga, hha, hB⟩
    have HRa := Lib.hid hra
    have HCa := Lib.hid hla
    have HTa := Lib.hid hga
    have HHa := Lib.hid hha
    clear hra hla hga hha
    replace HRX := Lib.hid (HRX.out.keep (Nat.le_refl _) hB)
    replace HRY := Lib.hid (HRY.out.keep (Nat.le_refl _) hB)
    replace HRZ := Lib.hid (HRZ.out.keep (Nat.le_refl _) hB)
    replace HB := Lib.hid (bthen HB.out (hB))
    clear hB
    go_wp2_with fail
    obtain rfl : X = La := right_ext HTX.out HTa.out (fun x => by rw [HHa.out]; unfold TT; cases hasB x X <;> rfl)
    refine (same_yes Aa AX X.length ca X.length cX X _ HRa.out HRX.out rfl rfl (by have := right_length HTa.out; omega)).mono ?_
    rintro e w27 ⟨rfl, hB⟩
    replace HRX := Lib.hid (HRX.out.keep (Nat.le_refl _) hB)
    replace HRY := Lib.hid (HRY.out.keep (Nat.le_refl _) hB)
    replace HRZ := Lib.hid (HRZ.out.keep (Nat.le_refl _) hB)
    replace HRa := Lib.hid (HRa.out.keep (Nat.le_refl _) hB)
    replace HB := Lib.hid (bthen HB.out (hB))
    clear hB
    go_wp2_with fail
    clear HRa HCa HTa HHa
    refine (or_any AX AX X.length cX X.length cX X X _ HRX.out HRX.out rfl rfl HCX.out HCX.out HTX.out HTX.out).mono ?_
    rintro e w28 ⟨La, Aa, ca, rfl, hra, hla, hga, hha, hB⟩
    have HRa := Lib.hid hra
    have HCa := Lib.hid hla
    have HTa := Lib.hid hga
    have HHa := Lib.hid hha
    clear hra hla hga hha
    replace HRX := Lib.hid (HRX.out.keep (Nat.le_refl _) hB)
    replace HRY := Lib.hid (HRY.out.keep (Nat.le_refl _) hB)
    replace HRZ := Lib.hid (HRZ.out.keep (Nat.le_refl _) hB)
    replace HB := Lib.hid (bthen HB.out (hB))
    clear hB
    go_wp2_with fail
    obtain rfl : X = La := right_ext HTX.out HTa.out (fun x => by rw [HHa.out]; unfold TO; cases hasB x X <;> rfl)
    refine (same_yes Aa AX X.length ca X.length cX X _ HRa.out HRX.out rfl rfl (by have := right_length HTa.out; omega)).mono ?_
    rintro e w30 ⟨rfl, hB⟩
    replace HRX := Lib.hid (HRX.out.keep (Nat.le_refl _) hB)
    replace HRY := Lib.hid (HRY.out.keep (Nat.le_refl _) hB)
    replace HRZ := Lib.hid (HRZ.out.keep (Nat.le_refl _) hB)
    replace HRa := Lib.hid (HRa.out.keep (Nat.le_refl _) hB)
    replace HB := Lib.hid (bthen HB.out (hB))
    clear hB
    go_wp2_with fail
    clear HRa HCa HTa HHa
    refine (upto_any2 65536 _).mono ?_
    rintro e w31 ⟨Au, cu, rfl, hru, hlu, hB⟩
    obtain ⟨Lu, huu⟩ : ∃ L, L = uptoL (65536) := ⟨_, rfl⟩
    rw [← huu] at hru hlu ⊢
    have HRu := Lib.hid hru
    have HCu := Lib.hid hlu
    have HTu := Lib.hid (show rightB (-1) Lu = true by rw [huu]; exact upto_right _)
    have HHu := Lib.hid huu
    clear hru hlu huu
    replace HRX := Lib.hid (HRX.out.keep (Nat.le_refl _) hB)
    replace HRY := Lib.hid (HRY.out.keep (Nat.le_refl _) hB)
    replace HRZ := Lib.hid (HRZ.out.keep (Nat.le_refl _) hB)
    replace HB := Lib.hid (bthen HB.out (hB))
    clear hB
    go_wp2_with fail
    replace HHu := Lib.hid (show ∀ x, hasB x Lu = decide (0 ≤ x ∧ x < 65536) by rw [HHu.out]; exact full_has)
    refine (or_any AX AY X.length cX Y.length cY X Y _ HRX.out HRY.out rfl rfl HCX.out HCY.out HTX.out HTY.out).mono ?_
    rintro e w32 ⟨La, Aa, ca, rfl, hra, hla, hga, hha, hB⟩
    have HRa := Lib.hid hra
    have HCa := Lib.hid hla
    have HTa := Lib.hid hga
    have HHa := Lib.hid hha
    clear hra hla hga hha
    replace HRX := Lib.hid (HRX.out.keep (Nat.le_refl _) hB)
    replace HRY := Lib.hid (HRY.out.keep (Nat.le_refl _) hB)
    replace HRZ := Lib.hid (HRZ.out.keep (Nat.le_refl _) hB)
    replace HRu := Lib.hid (HRu.out.keep (Nat.le_refl _) hB)
    replace HB := Lib.hid (bthen HB.out (hB))
    clear hB
    go_wp2_with fail
    refine (minus_any Au Aa Lu.length cu La.length ca Lu La _ HRu.out HRa.out rfl rfl HCu.out HCa.out HTu.out HTa.out).mono ?_
    rintro e w33 ⟨Lb, Ab, cb, rfl, hrb, hlb, hgb, hhb, hB⟩
    have HRb := Lib.hid hrb
    have HCb := Lib.hid hlb
    have HTb := Lib.hid hgb
    have HHb := Lib.hid hhb
    clear hrb hlb hgb hhb
    replace HRX := Lib.hid (HRX.out.keep (Nat.le_refl _) hB)
    replace HRY := Lib.hid (HRY.out.keep (Nat.le_refl _) hB)
    replace HRZ := Lib.hid (HRZ.out.keep (Nat.le_refl _) hB)
    replace HRu := Lib.hid (HRu.out.keep (Nat.le_refl _) hB)
    replace HRa := Lib.hid (HRa.out.keep (Nat.le_refl _) hB)
    replace HB := Lib.hid (bthen HB.out (hB))
    clear hB
    go_wp2_with fail
    refine (minus_any Au AX Lu.length cu X.length cX Lu X _ HRu.out HRX.out rfl rfl HCu.out HCX.out HTu.out HTX.out).mono ?_
    rintro e w34 ⟨Ld, Ad, cd, rfl, hrd, hld, hgd, hhd, hB⟩
    have HRd := Lib.hid hrd
    have HCd := Lib.hid hld
    have HTd := Lib.hid hgd
    have HHd := Lib.hid hhd
    clear hrd hld hgd hhd
    replace HRX := Lib.hid (HRX.out.keep (Nat.le_refl _) hB)
    replace HRY := Lib.hid (HRY.out.keep (Nat.le_refl _) hB)
    replace HRZ := Lib.hid (HRZ.out.keep (Nat.le_refl _) hB)
    replace HRu := Lib.hid (HRu.out.keep (Nat.le_refl _) hB)
    replace HRa := Lib.hid (HRa.out.keep (Nat.le_refl _) hB)
    replace HRb := Lib.hid (HRb.out.keep (Nat.le_refl _) hB)
    replace HB := Lib.hid (bthen HB.out (hB))
    clear hB
    go_wp2_with fail
    refine (minus_any Au AY Lu.length cu Y.length cY Lu Y _ HRu.out HRY.out rfl rfl HCu.out HCY.out HTu.out HTY.out).mono ?_
    rintro e w35 ⟨Le, Ae, ce, rfl, hre, hle, hge, hhe, hB⟩
    have HRe := Lib.hid hre
    have HCe := Lib.hid hle
    have HTe := Lib.hid hge
    have HHe := Lib.hid hhe
    clear hre hle hge hhe
    replace HRX := Lib.hid (HRX.out.keep (Nat.le_refl _) hB)
    replace HRY := Lib.hid (HRY.out.keep (Nat.le_refl _) hB)
    replace HRZ := Lib.hid (HRZ.out.keep (Nat.le_refl _) hB)
    replace HRu := Lib.hid (HRu.out.keep (Nat.le_refl _) hB)
    replace HRa := Lib.hid (HRa.out.keep (Nat.le_refl _) hB)
    replace HRb := Lib.hid (HRb.out.keep (Nat.le_refl _) hB)
    replace HRd := Lib.hid (HRd.out.keep (Nat.le_refl _) hB)
    replace HB := Lib.hid (bthen HB.out (hB))
    clear hB
    go_wp2_with fail
    refine (and_any Ad Ae Ld.length cd Le.length ce Ld Le _ HRd.out HRe.out rfl rfl HCd.out HCe.out HTd.out HTe.out).mono ?_
    rintro e w36 ⟨Lf, Af, cf, rfl, hrf, hlf, hgf, hhf, hB⟩
    have HRf := Lib.hid hrf
    have HCf := Lib.hid hlf
    have HTf := Lib.hid hgf
    have HHf := Lib.hid hhf
    clear hrf hlf hgf hhf
    replace HRX := Lib.hid (HRX.out.keep (Nat.le_refl _) hB)
    replace HRY := Lib.hid (HRY.out.keep (Nat.le_refl _) hB)
    replace HRZ := Lib.hid (HRZ.out.keep (Nat.le_refl _) hB)
    replace HRu := Lib.hid (HRu.out.keep (Nat.le_refl _) hB)
    replace HRa := Lib.hid (HRa.out.keep (Nat.le_refl _) hB)
    replace HRb := Lib.hid (HRb.out.keep (Nat.le_refl _) hB)
    replace HRd := Lib.hid (HRd.out.keep (Nat.le_refl _) hB)
    replace HRe := Lib.hid (HRe.out.keep (Nat.le_refl _) hB)
    replace HB := Lib.hid (bthen HB.out (hB))
    clear hB
    go_wp2_with fail
    obtain rfl : Lb = Lf := right_ext HTb.out HTf.out (fun x => by rw [HHb.out, HHa.out, HHf.out, HHd.out, HHe.out]; unfold TT TO TM; cases hasB x Lu <;> cases hasB x X <;> cases hasB x Y <;> rfl)
    refine (same_yes Ab Af Lb.length cb Lb.length cf Lb _ HRb.out HRf.out rfl rfl (by have := right_length HTb.out; omega)).mono ?_
    rintro e w38 ⟨rfl, hB⟩
    replace HRX := Lib.hid (HRX.out.keep (Nat.le_refl _) hB)
    replace HRY := Lib.hid (HRY.out.keep (Nat.le_refl _) hB)
    replace HRZ := Lib.hid (HRZ.out.keep (Nat.le_refl _) hB)
    replace HRu := Lib.hid (HRu.out.keep (Nat.le_refl _) hB)
    replace HRa := Lib.hid (HRa.out.keep (Nat.le_refl _) hB)
    replace HRb := Lib.hid (HRb.out.keep (Nat.le_refl _) hB)
    replace HRd := Lib.hid (HRd.out.keep (Nat.le_refl _) hB)
    replace HRe := Lib.hid (HRe.out.keep (Nat.le_refl _) hB)
    replace HRf := Lib.hid (HRf.out.keep (Nat.le_refl _) hB)
    replace HB := Lib.hid (bthen HB.out (hB))
    clear hB
    go_wp2_with fail
    clear HRf HCf HTf HHf
    clear HRb HCb HTb HHb
    clear HRe HCe HTe HHe
    clear HRd HCd HTd HHd
    clear HRa HCa HTa HHa
    refine (minus_any Au AX Lu.length cu X.length cX Lu X _ HRu.out HRX.out rfl rfl HCu.out HCX.out HTu.out HTX.out).mono ?_
    rintro e w39 ⟨La, Aa, ca, rfl, hra, hla, hga, hha, hB⟩
    have HRa := Lib.hid hra
    have HCa := Lib.hid hla
    have HTa := Lib.hid hga
    have HHa := Lib.hid hha
    clear hra hla hga hha
    replace HRX := Lib.hid (HRX.out.keep (Nat.le_refl _) hB)
    replace HRY := Lib.hid (HRY.out.keep (Nat.le_refl _) hB)
    replace HRZ := Lib.hid (HRZ.out.keep (Nat.le_refl _) hB)
    replace HRu := Lib.hid (HRu.out.keep (Nat.le_refl _) hB)
    replace HB := Lib.hid (bthen HB.out (hB))
    clear hB
    go_wp2_with fail
    refine (minus_any Au Aa Lu.length cu La.length ca Lu La _ HRu.out HRa.out rfl rfl HCu.out HCa.out HTu.out HTa.out).mono ?_
    rintro e w40 ⟨Lb, Ab, cb, rfl, hrb, hlb, hgb, hhb, hB⟩
    have HRb := Lib.hid hrb
    have HCb := Lib.hid hlb
    have HTb := Lib.hid hgb
    have HHb := Lib.hid hhb
    clear hrb hlb hgb hhb
    replace HRX := Lib.hid (HRX.out.keep (Nat.le_refl _) hB)
    replace HRY := Lib.hid (HRY.out.keep (Nat.le_refl _) hB)
    replace HRZ := Lib.hid (HRZ.out.keep (Nat.le_refl _) hB)
    replace HRu := Lib.hid (HRu.out.keep (Nat.le_refl _) hB)
    replace HRa := Lib.hid (HRa.out.keep (Nat.le_refl _) hB)
    replace HB := Lib.hid (bthen HB.out (hB))
    clear hB
    go_wp2_with fail
    obtain rfl : X = Lb := right_ext HTX.out HTb.out (fun x => by
      rw [HHb.out, HHa.out, HHu.out]; unfold TM
      cases hx : hasB x X with
      | false => simp
      | true => have := has_range HTX.out hx; simp; omega)
    refine (same_yes Ab AX X.length cb X.length cX X _ HRb.out HRX.out rfl rfl (by have := right_length HTb.out; omega)).mono ?_
    rintro e w42 ⟨rfl, hB⟩
    replace HRX := Lib.hid (HRX.out.keep (Nat.le_refl _) hB)
    replace HRY := Lib.hid (HRY.out.keep (Nat.le_refl _) hB)
    replace HRZ := Lib.hid (HRZ.out.keep (Nat.le_refl _) hB)
    replace HRu := Lib.hid (HRu.out.keep (Nat.le_refl _) hB)
    replace HRa := Lib.hid (HRa.out.keep (Nat.le_refl _) hB)
    replace HRb := Lib.hid (HRb.out.keep (Nat.le_refl _) hB)
    replace HB := Lib.hid (bthen HB.out (hB))
    clear hB
    go_wp2_with fail
    clear HRb HCb HTb HHb
    clear HRa HCa HTa HHa
    refine (alive_any _).mono ?_
    rintro e w43 ⟨rfl, hB⟩
    replace HRX := Lib.hid (HRX.out.keep (Nat.le_refl _) hB)
    replace HRY := Lib.hid (HRY.out.keep (Nat.le_refl _) hB)
    replace HRZ := Lib.hid (HRZ.out.keep (Nat.le_refl _) hB)
    replace HRu := Lib.hid (HRu.out.keep (Nat.le_refl _) hB)
    replace HB := Lib.hid (bthen HB.out (hB))
    clear hB
    go_wp2_with fail
    refine (or_any AX AY X.length cX Y.length cY X Y _ HRX.out HRY.out rfl rfl HCX.out HCY.out HTX.out HTY.out).mono ?_
    rintro e w44 ⟨La, Aa, ca, rfl, hra, hla, hga, hha, hB⟩
    have HRa := Lib.hid hra
    have HCa := Lib.hid hla
    have HTa := Lib.hid hga
    have HHa := Lib.hid hha
    clear hra hla hga hha
    replace HRX := Lib.hid (HRX.out.keep (Nat.le_refl _) hB)
    replace HRY := Lib.hid (HRY.out.keep (Nat.le_refl _) hB)
    replace HRZ := Lib.hid (HRZ.out.keep (Nat.le_refl _) hB)
    replace HRu := Lib.hid (HRu.out.keep (Nat.le_refl _) hB)
    replace HB := Lib.hid (bthen HB.out (hB))
    clear hB
    go_wp2_with fail
    refine (right_any Aa La.length ca La _ HRa.out rfl (by have := right_length HTa.out; omega)).mono ?_
    rintro e w45 ⟨rfl, hB⟩
    rw [HTa.out]
    replace HRX := Lib.hid (HRX.out.keep (Nat.le_refl _) hB)
    replace HRY := Lib.hid (HRY.out.keep (Nat.le_refl _) hB)
    replace HRZ := Lib.hid (HRZ.out.keep (Nat.le_refl _) hB)
    replace HRu := Lib.hid (HRu.out.keep (Nat.le_refl _) hB)
    replace HRa := Lib.hid (HRa.out.keep (Nat.le_refl _) hB)
    replace HB := Lib.hid (bthen HB.out (hB))
    clear hB
    go_wp2_with fail
    clear HRa HCa HTa HHa
    refine (minus_any Au AX Lu.length cu X.length cX Lu X _ HRu.out HRX.out rfl rfl HCu.out HCX.out HTu.out HTX.out).mono ?_
    rintro e w46 ⟨La, Aa, ca, rfl, hra, hla, hga, hha, hB⟩
    have HRa := Lib.hid hra
    have HCa := Lib.hid hla
    have HTa := Lib.hid hga
    have HHa := Lib.hid hha
    clear hra hla hga hha
    replace HRX := Lib.hid (HRX.out.keep (Nat.le_refl _) hB)
    replace HRY := Lib.hid (HRY.out.keep (Nat.le_refl _) hB)
    replace HRZ := Lib.hid (HRZ.out.keep (Nat.le_refl _) hB)
    replace HRu := Lib.hid (HRu.out.keep (Nat.le_refl _) hB)
    replace HB := Lib.hid (bthen HB.out (hB))
    clear hB
    go_wp2_with fail
    refine (right_any Aa La.length ca La _ HRa.out rfl (by have := right_length HTa.out; omega)).mono ?_
    rintro e w47 ⟨rfl, hB⟩
    rw [HTa.out]
    replace HRX := Lib.hid (HRX.out.keep (Nat.le_refl _) hB)
    replace HRY := Lib.hid (HRY.out.keep (Nat.le_refl _) hB)
    replace HRZ := Lib.hid (HRZ.out.keep (Nat.le_refl _) hB)
    replace HRu := Lib.hid (HRu.out.keep (Nat.le_refl _) hB)
    replace HRa := Lib.hid (HRa.out.keep (Nat.le_refl _) hB)
    replace HB := Lib.hid (bthen HB.out (hB))
    clear hB
    go_wp2_with fail
    go_ret
    exact ⟨rfl, HB.out⟩
  · obtain ⟨p, hp⟩ : ∃ p, p = okB X := ⟨_, rfl⟩
    obtain ⟨q, hq⟩ : ∃ q, q = okB Y := ⟨_, rfl⟩
    obtain ⟨r, hr⟩ : ∃ r, r = okB Z := ⟨_, rfl⟩
    have hno : ¬ (p = true ∧ q = true ∧ r = true) := fun h => hall ⟨(okB_iff X).1 (hp ▸ h.1), (okB_iff Y).1 (hq ▸ h.2.1), (okB_iff Z).1 (hr ▸ h.2.2)⟩
    have HOX := Lib.hid hp.symm
    have HOY := Lib.hid hq.symm
    have HOZ := Lib.hid hr.symm
    have HNO := Lib.hid hno
    clear hp hq hr hno hall
    go_enter Try.func6, Try.ntmps6
    go_wp2_with fail
    refine (fits_any AX X.length cX X _ HRX.out rfl).mono ?_
    rintro e w48 ⟨rfl, hB⟩
    rw [HOX.out]
    replace HRX := Lib.hid (HRX.out.keep (Nat.le_refl _) hB)
    replace HRY := Lib.hid (HRY.out.keep (Nat.le_refl _) hB)
    replace HRZ := Lib.hid (HRZ.out.keep (Nat.le_refl _) hB)
    replace HB := Lib.hid (bthen HB.out (hB))
    clear hB
    go_wp2_with fail
    refine (fits_any AY Y.length cY Y _ HRY.out rfl).mono ?_
    rintro e w49 ⟨rfl, hB⟩
    rw [HOY.out]
    replace HRX := Lib.hid (HRX.out.keep (Nat.le_refl _) hB)
    replace HRY := Lib.hid (HRY.out.keep (Nat.le_refl _) hB)
    replace HRZ := Lib.hid (HRZ.out.keep (Nat.le_refl _) hB)
    replace HB := Lib.hid (bthen HB.out (hB))
    clear hB
    go_wp2_with fail
    refine (fits_any AZ Z.length cZ Z _ HRZ.out rfl).mono ?_
    rintro e w50 ⟨rfl, hB⟩
    rw [HOZ.out]
    replace HRX := Lib.hid (HRX.out.keep (Nat.le_refl _) hB)
    replace HRY := Lib.hid (HRY.out.keep (Nat.le_refl _) hB)
    replace HRZ := Lib.hid (HRZ.out.keep (Nat.le_refl _) hB)
    replace HB := Lib.hid (bthen HB.out (hB))
    clear hB
    cases p <;> cases q <;> cases r <;> first | exact absurd ⟨rfl, rfl, rfl⟩ HNO.out | skip
    all_goals
      go_wp2_with fail
      refine (alive_any _).mono ?_
      rintro e w9 ⟨rfl, hB⟩
      replace HB := Lib.hid (bthen HB.out hB)
      clear hB
      go_wp2_with fail
      go_ret
      exact ⟨rfl, HB.out⟩
end Go.Proofs.Ytohdkidfhohmlaa
