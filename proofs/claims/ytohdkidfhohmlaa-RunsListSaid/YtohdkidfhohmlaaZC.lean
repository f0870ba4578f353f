/- The law RunsList: its walk. -/
import Derived.Test.YtohdkidfhohmlaaZA
namespace Go.Proofs.Ytohdkidfhohmlaa
open Go.RowKit
set_option linter.unusedSimpArgs false
set_option linter.unusedVariables false
set_option maxRecDepth 100000 in
set_option maxHeartbeats 4000000 in
theorem list_walk (AX : Option Addr) (nX cX : Nat) (X : List (Int × Int)) (AY : Option Addr) (nY cY : Nat) (Y : List (Int × Int)) (w : World) (hrX : Row w AX (cellsP X)) (hzX : nX = X.length) (hcX : nX ≤ cX) (hrY : Row w AY (cellsP Y)) (hzY : nY = Y.length) (hcY : nY ≤ cY) :
    Calls Try.prog 9 #[.slice AX nX cX, .slice AY nY cY] w fun e w' => e = .returned (.bool true) ∧ Below w.heap.size w w' := by
  subst hzX
  have HRX := Lib.hid hrX
  have HCX := Lib.hid hcX
  clear hrX hcX
  subst hzY
  have HRY := Lib.hid hrY
  have HCY := Lib.hid hcY
  clear hrY hcY
  have HB := Lib.hid (Below.refl w.heap.size w)
  by_cases hall : okSet X ∧ okSet Y
  · obtain ⟨hX, hY⟩ := hall
    have HTX := Lib.hid hX.2.1
    have HOX := Lib.hid ((okB_iff X).2 hX)
    have HTY := Lib.hid hY.2.1
    have HOY := Lib.hid ((okB_iff Y).2 hY)
    have hX3 : X.length ≤ 3000 := hX.1
    have hY3 : Y.length ≤ 3000 := hY.1
    obtain ⟨VX, hVX⟩ : ∃ V, rankZ 65536 X = V := ⟨_, rfl⟩
    obtain ⟨VY, hVY⟩ : ∃ V, rankZ 65536 Y = V := ⟨_, rfl⟩
    have HVX := Lib.hid hVX
    have HVY := Lib.hid hVY
    have hv1 : 0 ≤ VX ∧ VX ≤ 3000 := by rw [← hVX]; exact ⟨rank_bd hX.2.1, hX.2.2⟩
    have hv2 : 0 ≤ VY ∧ VY ≤ 3000 := by rw [← hVY]; exact ⟨rank_bd hY.2.1, hY.2.2⟩
    obtain ⟨hv10, hv11⟩ := hv1
    obtain ⟨hv20, hv21⟩ := hv2
    have HLL := Lib.hid (show ((listL X).length : Int) = VX by rw [listL_rank hX.2.1]; exact hVX)
    have HX3 := Lib.hid hX3
    have HY3 := Lib.hid hY3
    clear hX hY hVX hVY hX3 hY3
    go_enter Try.func9, Try.ntmps9
    go_wp2_with fail
    refine (fits_any AX X.length cX X _ HRX.out rfl).mono ?_
    rintro e w1 ⟨rfl, hB⟩
    rw [HOX.out]
    replace HRX := Lib.hid (HRX.out.keep (Nat.le_refl _) hB)
    replace HRY := Lib.hid (HRY.out.keep (Nat.le_refl _) hB)
    replace HB := Lib.hid (bthen HB.out (hB))
    clear hB
    go_wp2_with fail
    refine (fits_any AY Y.length cY Y _ HRY.out rfl).mono ?_
    rintro e w2 ⟨rfl, hB⟩
    rw [HOY.out]
    replace HRX := Lib.hid (HRX.out.keep (Nat.le_refl _) hB)
    replace HRY := Lib.hid (HRY.out.keep (Nat.le_refl _) hB)
    replace HB := Lib.hid (bthen HB.out (hB))
    clear hB
    by_cases hbig : 1000 < VX
    · go_wp2_with fail
      refine (count_any AX X.length cX X _ HRX.out rfl (by have := right_length HTX.out; omega) HTX.out).mono ?_
      rintro e w3 ⟨rfl, hB⟩
      rw [HVX.out]
      replace HRX := Lib.hid (HRX.out.keep (Nat.le_refl _) hB)
      replace HRY := Lib.hid (HRY.out.keep (Nat.le_refl _) hB)
      replace HB := Lib.hid (bthen HB.out (hB))
      clear hB
      go_wp2_with fail
      refine (alive_any _).mono ?_
      rintro e w4 ⟨rfl, hB⟩
      replace HRX := Lib.hid (HRX.out.keep (Nat.le_refl _) hB)
      replace HRY := Lib.hid (HRY.out.keep (Nat.le_refl _) hB)
      replace HB := Lib.hid (bthen HB.out (hB))
      clear hB
      go_wp2_with fail
      go_ret
      exact ⟨rfl, HB.out⟩
    · go_wp2_with fail
      refine (count_any AX X.length cX X _ HRX.out rfl (by have := right_length HTX.out; omega) HTX.out).mono ?_
      rintro e w5 ⟨rfl, hB⟩
      rw [HVX.out]
      replace HRX := Lib.hid (HRX.out.keep (Nat.le_refl _) hB)
      replace HRY := Lib.hid (HRY.out.keep (Nat.le_refl _) hB)
      replace HB := Lib.hid (bthen HB.out (hB))
      clear hB
      go_wp2_with fail
      refine (list_any AX X.length cX X _ HRX.out rfl (by have := HX3.out; omega) HTX.out).mono ?_
      rintro e w6 ⟨Al, cl, rfl, hrl, hB⟩
      obtain ⟨kl, hkl⟩ : ∃ k, k = (listL X).length := ⟨_, rfl⟩
      rw [← hkl]
      have HKl := Lib.hid hkl
      have HLl := Lib.hid hrl
      have hkvl : (kl : Int) = VX := by rw [hkl]; exact HLL.out
      have hkbl : kl ≤ 3000 := by omega
      have HKVl := Lib.hid hkvl
      clear hrl hkl hkvl
      replace HRX := Lib.hid (HRX.out.keep (Nat.le_refl _) hB)
      replace HRY := Lib.hid (HRY.out.keep (Nat.le_refl _) hB)
      replace HB := Lib.hid (bthen HB.out (hB))
      clear hB
      go_wp2_with fail
      refine (of_any Al kl cl (listL X) _ HLl.out HKl.out (by omega) (fun x hx => by have := has_range HTX.out (mem_list.1 hx); omega)).mono ?_
      rintro e w7 ⟨hB, ⟨_, La, Aa, ca, rfl, hra, hla, hga, hha⟩ | ⟨hno, _⟩⟩
      rotate_left
      · exact absurd (fun x hx => has_range HTX.out (mem_list.1 hx)) hno
      have HRa := Lib.hid hra
      have HCa := Lib.hid hla
      have HTa := Lib.hid hga
      have HHa := Lib.hid hha
      clear hra hla hga hha
      obtain rfl : X = La := right_ext HTX.out HTa.out (fun x => by rw [HHa.out, Bool.eq_iff_iff, decide_eq_true_eq]; exact mem_list.symm)
      replace HRX := Lib.hid (HRX.out.keep (Nat.le_refl _) hB)
      replace HRY := Lib.hid (HRY.out.keep (Nat.le_refl _) hB)
      replace HB := Lib.hid (bthen HB.out (hB))
      clear hB
      go_wp2_with fail
      refine (and_any AX AY X.length cX Y.length cY X Y _ HRX.out HRY.out rfl rfl HCX.out HCY.out HTX.out HTY.out).mono ?_
      rintro e w8 ⟨Lb, Ab, cb, rfl, hrb, hlb, hgb, hhb, hB⟩
      have HRb := Lib.hid hrb
      have HCb := Lib.hid hlb
      have HTb := Lib.hid hgb
      have HHb := Lib.hid hhb
      clear hrb hlb hgb hhb
      replace HRX := Lib.hid (HRX.out.keep (Nat.le_refl _) hB)
      replace HRY := Lib.hid (HRY.out.keep (Nat.le_refl _) hB)
      replace HRa := Lib.hid (HRa.out.keep (Nat.le_refl _) hB)
      replace HB := Lib.hid (bthen HB.out (hB))
      clear hB
      go_wp2_with fail
      obtain ⟨Vb, hVb⟩ : ∃ V, rankZ 65536 Lb = V := ⟨_, rfl⟩
      have HVb := Lib.hid hVb
      have hvbb := rank_le HTb.out 65536
      rw [show rankZ ((65536 : Nat) : Int) Lb = Vb from hVb] at hvbb
      obtain ⟨hvbb0, hvbb1⟩ := hvbb
      clear hVb
      refine (count_any Ab Lb.length cb Lb _ HRb.out rfl (by have := right_length HTb.out; omega) HTb.out).mono ?_
      rintro e w9 ⟨rfl, hB⟩
      rw [HVb.out]
      replace HRX := Lib.hid (HRX.out.keep (Nat.le_refl _) hB)
      replace HRY := Lib.hid (HRY.out.keep (Nat.le_refl _) hB)
      replace HRa := Lib.hid (HRa.out.keep (Nat.le_refl _) hB)
      replace HRb := Lib.hid (HRb.out.keep (Nat.le_refl _) hB)
      replace HB := Lib.hid (bthen HB.out (hB))
      clear hB
      go_wp2_with fail
      refine (or_any AX AY X.length cX Y.length cY X Y _ HRX.out HRY.out rfl rfl HCX.out HCY.out HTX.out HTY.out).mono ?_
      rintro e w10 ⟨Ld, Ad, cd, rfl, hrd, hld, hgd, hhd, hB⟩
      have HRd := Lib.hid hrd
      have HCd := Lib.hid hld
      have HTd := Lib.hid hgd
      have HHd := Lib.hid hhd
      clear hrd hld hgd hhd
      replace HRX := Lib.hid (HRX.out.keep (Nat.le_refl _) hB)
      replace HRY := Lib.hid (HRY.out.keep (Nat.le_refl _) hB)
      replace HRa := Lib.hid (HRa.out.keep (Nat.le_refl _) hB)
      replace HRb := Lib.hid (HRb.out.keep (Nat.le_refl _) hB)
      replace HB := Lib.hid (bthen HB.out (hB))
      clear hB
      go_wp2_with fail
      obtain ⟨Vd, hVd⟩ : ∃ V, rankZ 65536 Ld = V := ⟨_, rfl⟩
      have HVd := Lib.hid hVd
      have hvbd := rank_le HTd.out 65536
      rw [show rankZ ((65536 : Nat) : Int) Ld = Vd from hVd] at hvbd
      obtain ⟨hvbd0, hvbd1⟩ := hvbd
      clear hVd
      refine (count_any Ad Ld.length cd Ld _ HRd.out rfl (by have := right_length HTd.out; omega) HTd.out).mono ?_
      rintro e w11 ⟨rfl, hB⟩
      rw [HVd.out]
      replace HRX := Lib.hid (HRX.out.keep (Nat.le_refl _) hB)
      replace HRY := Lib.hid (HRY.out.keep (Nat.le_refl _) hB)
      replace HRa := Lib.hid (HRa.out.keep (Nat.le_refl _) hB)
      replace HRb := Lib.hid (HRb.out.keep (Nat.le_refl _) hB)
      replace HRd := Lib.hid (HRd.out.keep (Nat.le_refl _) hB)
      replace HB := Lib.hid (bthen HB.out (hB))
      clear hB
      have hsum : Vb + Vd = VX + VY := by have := rank_four HTb.out HTd.out HTX.out HTY.out HHb.out HHd.out 65536; rw [show rankZ ((65536 : Nat) : Int) Lb = Vb from HVb.out, show rankZ ((65536 : Nat) : Int) Ld = Vd from HVd.out, show rankZ ((65536 : Nat) : Int) X = VX from HVX.out, show rankZ ((65536 : Nat) : Int) Y = VY from HVY.out] at this; exact this
      have heq : (Vb + Vd == VX + VY) = true := by simp [hsum]
      clear hsum
      go_wp2_with fail
      refine (alive_any _).mono ?_
      rintro e w12 ⟨rfl, hB⟩
      replace HRX := Lib.hid (HRX.out.keep (Nat.le_refl _) hB)
      replace HRY := Lib.hid (HRY.out.keep (Nat.le_refl _) hB)
      replace HRa := Lib.hid (HRa.out.keep (Nat.le_refl _) hB)
      replace HRb := Lib.hid (HRb.out.keep (Nat.le_refl _) hB)
      replace HRd := Lib.hid (HRd.out.keep (Nat.le_refl _) hB)
      replace HB := Lib.hid (bthen HB.out (hB))
      clear hB
      go_wp2_with fail
      refine (same_yes Aa AX X.length ca X.length cX X _ HRa.out HRX.out rfl rfl (by have := right_length HTa.out; omega)).mono ?_
      rintro e w13 ⟨rfl, hB⟩
      replace HRX := Lib.hid (HRX.out.keep (Nat.le_refl _) hB)
      replace HRY := Lib.hid (HRY.out.keep (Nat.le_refl _) hB)
      replace HRa := Lib.hid (HRa.out.keep (Nat.le_refl _) hB)
      replace HRb := Lib.hid (HRb.out.keep (Nat.le_refl _) hB)
      replace HRd := Lib.hid (HRd.out.keep (Nat.le_refl _) hB)
      replace HB := Lib.hid (bthen HB.out (hB))
      clear hB
      go_wp2_with fail
      refine (list_any AX X.length cX X _ HRX.out rfl (by have := HX3.out; omega) HTX.out).mono ?_
      rintro e w14 ⟨Am, cm, rfl, hrm, hB⟩
      obtain ⟨km, hkm⟩ : ∃ k, k = (listL X).length := ⟨_, rfl⟩
      rw [← hkm]
      have HKm := Lib.hid hkm
      have HLm := Lib.hid hrm
      have hkvm : (km : Int) = VX := by rw [hkm]; exact HLL.out
      have hkbm : km ≤ 3000 := by omega
      have HKVm := Lib.hid hkvm
      clear hrm hkm hkvm
      replace HRX := Lib.hid (HRX.out.keep (Nat.le_refl _) hB)
      replace HRY := Lib.hid (HRY.out.keep (Nat.le_refl _) hB)
      replace HRa := Lib.hid (HRa.out.keep (Nat.le_refl _) hB)
      replace HRb := Lib.hid (HRb.out.keep (Nat.le_refl _) hB)
      replace HRd := Lib.hid (HRd.out.keep (Nat.le_refl _) hB)
      replace HB := Lib.hid (bthen HB.out (hB))
      clear hB
      have hkm : ((km : Int) == VX) = true := by simp [HKVm.out]
      go_wp2_with fail
      refine (count_any AX X.length cX X _ HRX.out rfl (by have := right_length HTX.out; omega) HTX.out).mono ?_
      rintro e w15 ⟨rfl, hB⟩
      rw [HVX.out]
      replace HRX := Lib.hid (HRX.out.keep (Nat.le_refl _) hB)
      replace HRY := Lib.hid (HRY.out.keep (Nat.le_refl _) hB)
      replace HRa := Lib.hid (HRa.out.keep (Nat.le_refl _) hB)
      replace HRb := Lib.hid (HRb.out.keep (Nat.le_refl _) hB)
      replace HRd := Lib.hid (HRd.out.keep (Nat.le_refl _) hB)
      replace HB := Lib.hid (bthen HB.out (hB))
      clear hB
      go_wp2_with fail
      refine (count_any AX X.length cX X _ HRX.out rfl (by have := right_length HTX.out; omega) HTX.out).mono ?_
      rintro e w16 ⟨rfl, hB⟩
      rw [HVX.out]
      replace HRX := Lib.hid (HRX.out.keep (Nat.le_refl _) hB)
      replace HRY := Lib.hid (HRY.out.keep (Nat.le_refl _) hB)
      replace HRa := Lib.hid (HRa.out.keep (Nat.le_refl _) hB)
      replace HRb := Lib.hid (HRb.out.keep (Nat.le_refl _) hB)
      replace HRd := Lib.hid (HRd.out.keep (Nat.le_refl _) hB)
      replace HB := Lib.hid (bthen HB.out (hB))
      clear hB
      go_wp2_with fail
      refine (count_any AY Y.length cY Y _ HRY.out rfl (by have := right_length HTY.out; omega) HTY.out).mono ?_
      rintro e w17 ⟨rfl, hB⟩
      rw [HVY.out]
      replace HRX := Lib.hid (HRX.out.keep (Nat.le_refl _) hB)
      replace HRY := Lib.hid (HRY.out.keep (Nat.le_refl _) hB)
      replace HRa := Lib.hid (HRa.out.keep (Nat.le_refl _) hB)
      replace HRb := Lib.hid (HRb.out.keep (Nat.le_refl _) hB)
      replace HRd := Lib.hid (HRd.out.keep (Nat.le_refl _) hB)
      replace HB := Lib.hid (bthen HB.out (hB))
      clear hB
      go_wp2_with fail
      go_ret
      exact ⟨rfl, HB.out⟩
  · obtain ⟨p, hp⟩ : ∃ p, p = okB X := ⟨_, rfl⟩
    obtain ⟨q, hq⟩ : ∃ q, q = okB Y := ⟨_, rfl⟩
    have hno : ¬ (p = true ∧ q = true) := fun h => hall ⟨(okB_iff X).1 (hp ▸ h.1), (okB_iff Y).1 (hq ▸ h.2)⟩
    have HOX := Lib.hid hp.symm
    have HOY := Lib.hid hq.symm
    have HNO := Lib.hid hno
    clear hp hq hno hall
    go_enter Try.func9, Try.ntmps9
    go_wp2_with fail
    refine (fits_any AX X.length cX X _ HRX.out rfl).mono ?_
    rintro e w18 ⟨rfl, hB⟩
    rw [HOX.out]
    replace HRX := Lib.hid (HRX.out.keep (Nat.le_refl _) hB)
    replace HRY := Lib.hid (HRY.out.keep (Nat.le_refl _) hB)
    replace HB := Lib.hid (bthen HB.out (hB))
    clear hB
    go_wp2_with fail
    refine (fits_any AY Y.length cY Y _ HRY.out rfl).mono ?_
    rintro e w19 ⟨rfl, hB⟩
    rw [HOY.out]
    replace HRX := Lib.hid (HRX.out.keep (Nat.le_refl _) hB)
    replace HRY := Lib.hid (HRY.out.keep (Nat.le_refl _) hB)
    replace HB := Lib.hid (bthen HB.out (hB))
    clear hB
    cases p <;> cases q <;> first | exact absurd ⟨rfl, rfl⟩ HNO.out | skip
    all_goals
      go_wp2_with fail
      refine (alive_any _).mono ?_
      rintro e w9 ⟨rfl, hB⟩
      replace HB := Lib.hid (bthen HB.out hB)
      clear hB
      go_wp2_with fail
      go_ret
      exact ⟨rfl, HB.out⟩
end Go.Proofs.Ytohdkidfhohmlaa
