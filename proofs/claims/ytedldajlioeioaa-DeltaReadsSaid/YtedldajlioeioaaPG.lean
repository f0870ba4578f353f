/- A list's bytes, as the document says. -/
import Derived.Test.YtedldajlioeioaaPF
namespace Go.Proofs.Ytedldajlioeioaa
open Go.RowKit
set_option linter.unusedSimpArgs false
set_option linter.unusedVariables false
set_option maxRecDepth 100000 in
set_option maxHeartbeats 4000000 in
theorem rencode_any (A : Option Addr) (n c : Nat) (L : List Int) (w : World) (hA : Row w A (L.map (Value.int .i64))) (hz : n = L.length) (hn : n ≤ 65536) (hL : ints L) :
    Calls Try.prog 10 #[.slice A n c] w (MadeE w (encZ L)) := by
  obtain ⟨i0, hi0, hz0, hz1, hz2⟩ := info_parts Try.info36
  have HA := Lib.hid hA
  have HZ := Lib.hid hz
  have HL := Lib.hid hL
  cases L with
  | nil =>
    obtain rfl : n = 0 := hz
    clear hA hL
    go_enter Try.func10, Try.ntmps10
    go_wp2_with fail
    refine (refint_any 0 _ (by omega) (by omega)).mono ?_
    rintro e w1 ⟨g, cap, rfl, hcap, hown1, hB1⟩
    have HR := Lib.hid (MadeB.row hown1)
    have HB1 := Lib.hid hB1
    clear hown1 hB1
    go_wp2_with fail
    go_ret2
    exact ⟨_, cap, by show _ = Ending.returned (.tuple #[.slice _ (encV ((0 : Nat) : Int) ++ []).length cap, .int .i64 0]); rw [List.append_nil]; rfl, by show Row _ _ ((encV ((0 : Nat) : Int) ++ []).map _); rw [List.append_nil]; exact HR.out, by show (encV ((0 : Nat) : Int) ++ []).length ≤ cap; rw [List.append_nil]; exact hcap, (fun h => by cases h), HB1.out⟩
  | cons a l =>
    obtain ⟨L, hLL⟩ : ∃ L, L = a :: l := ⟨_, rfl⟩
    have hpos : 1 ≤ n := by rw [hz]; simp
    have hal : L[0]? = some a := by rw [hLL]; rfl
    have ha : i64 a := hL a (by simp)
    rw [← hLL] at HA HZ HL hz ⊢
    have HE := Lib.hid (show encZ L = encV (n : Int) ++ bodyZ a L by rw [hz, hLL]; rfl)
    obtain ⟨b, off, hA', hc0⟩ := HA.out.cell (i := 0) (by omega)
    have hL0 : L[0]'(by omega) = a := Option.some.inj ((List.getElem?_eq_getElem (by omega)).symm.trans hal)
    rw [hL0, Nat.add_zero] at hc0
    have HC0 := Lib.hid hc0
    have ha1 := ha.1
    have ha2 := ha.2
    have HOL := Lib.hid (off_length L)
    clear hL0 hc0 hz hA hL hLL hal ha
    subst hA'
    obtain ⟨B, hB⟩ : ∃ B, B = leastZ (stepsZ L) := ⟨_, rfl⟩
    obtain ⟨O, hO⟩ : ∃ O, O = offZ L := ⟨_, rfl⟩
    obtain ⟨W, hW⟩ : ∃ W, W = widthN O := ⟨_, rfl⟩
    have hBi : i64 B := by rw [hB]; exact least_ints (steps_ints L)
    have hB1 := hBi.1
    have hB2 := hBi.2
    have HOS := Lib.hid (show small O by rw [hO]; exact off_small L)
    have hW64 : W ≤ 64 := by rw [hW]; exact widthN_le64 O
    have HBB := Lib.hid hB
    have HOO := Lib.hid hO
    have HWW := Lib.hid hW
    have hn0 : ((n : Int) == 0) = false := by simp; omega
    have hn1 : ¬ (n : Int) = 0 := by omega
    have hn6 : (n : Int) ≤ 65536 := by omega
    obtain ⟨S, hS⟩ : ∃ S, S = stepsZ L := ⟨_, rfl⟩
    have HSL := Lib.hid (show S.length = n - 1 by rw [hS, steps_length, ← HZ.out])
    have HSI := Lib.hid (show ints S by rw [hS]; exact steps_ints L)
    have HSS := Lib.hid hS
    clear hB hO hW hBi hS
    go_enter Try.func10, Try.ntmps10
    go_wp2_with fail
    refine (refint_any (n : Int) _ (by omega) (by omega)).mono ?_
    rintro e w1 ⟨g, cap, rfl, hcap, hown1, hB1⟩
    have HO1 := Lib.hid hown1
    have HB1 := Lib.hid hB1
    clear hown1 hB1
    obtain ⟨E1, hE1⟩ : ∃ E, E = encV (n : Int) := ⟨_, rfl⟩
    have hE1l : E1.length ≤ 10 := by rw [hE1]; exact (enc_bd _).2
    rw [← hE1] at HO1 HE hcap ⊢
    obtain ⟨l1, hl1⟩ : ∃ l1, l1 = E1.length := ⟨_, rfl⟩
    rw [← hl1] at HO1 hcap hE1l ⊢
    have HL1 := Lib.hid hl1
    clear hE1 hl1
    go_wp2_with fail
    refine (rsteps_any (some ⟨b, off, none⟩) n c L _ (HA.out.keep (Nat.le_refl _) HB1.out) HZ.out (by omega)).mono ?_
    rw [← HSS.out]
    rintro e w2 ⟨A2, c2, rfl, hr2, hc2, hn2, hB2⟩
    rw [HSL.out] at hc2 ⊢
    have HR2 := Lib.hid hr2
    have HO2 := Lib.hid (own_below HO1.out hB2)
    have HB2 := Lib.hid (bthen HB1.out hB2)
    clear hr2 hB2 hc2 hn2
    go_wp2_with fail
    refine (rbase_any A2 (n - 1) c2 S _ HR2.out HSL.out.symm (by omega)).mono ?_
    rintro e w3 ⟨rfl, rfl⟩
    rw [show leastZ S = B by rw [HSS.out, HBB.out]]
    go_wp2_with fail
    go_loopw [7, 8] (fun v i wr => ∃ k : Nat, k ≤ n - 1 ∧ i = .int .i64 k ∧ Hid (wr.ownsRow w2.heap.size 36 1 v k ((S.take k).map fun x => Value.int .u64 (overZ B x))) ∧ Hid (Below w2.heap.size w2 wr)) (fun _ i _ => n - 1 - (intOf i).toNat)
    case atStart => exact ⟨0, by omega, rfl, Lib.hid (World.ownsRow_nil _ _ _ _), Lib.hid (Below.refl _ _)⟩
    case round =>
      obtain ⟨k, hk, rfl, HO, HBR⟩ := hrel
      by_cases hlt : k < n - 1
      · have hkz : k < S.length := by rw [HSL.out]; exact hlt
        obtain ⟨b2, off2, hA2, c0⟩ := (HR2.out.keep (Nat.le_refl _) HBR.out).cell hkz
        obtain ⟨x, hx⟩ : ∃ x, S[k]? = some x := ⟨_, List.getElem?_eq_getElem hkz⟩
        rw [show S[k] = x from Option.some.inj ((List.getElem?_eq_getElem hkz).symm.trans hx)] at c0
        have hki : (k : Int) < ((n - 1 : Nat) : Int) := by omega
        have hk0 : (0 : Int) ≤ (k : Int) := by omega
        have hw1 : IntKind.u64.wrap (IntKind.u64.wrap x - IntKind.u64.wrap B) = overZ B x := by rw [u64_wrap, u64_wrap, u64_wrap]; unfold overZ; omega
        have HTK := Lib.hid (show S.take (k + 1) = S.take k ++ [x] by
          rw [take_snoc _ k hkz]; congr 2
          exact Option.some.inj ((List.getElem?_eq_getElem hkz).symm.trans hx))
        have hown := HO.out
        clear hx
        subst hA2
        go_wp2_with (at_builtin; refine wpList_append_own _ rfl _ _ 34 rfl w2.heap.size 36 i0 (.int .u64 0) 1 8 Try.underlying34 hi0 hz0 hz1 hz2 rfl (by decide) _ _ _ rfl (hown.alloc _) ⟨wr.heap.size, 0, none⟩ 1 1 [.int .u64 (overZ B x)] rfl rfl ?c1 ?c2 ?c3 ?c4 ?c5 ?_)
        case c1 => intro j u hj; match j, hj with | 0, hj => simp at hj; subst hj; simp [Addr.add]
        case c2 => intro u hu; simp at hu; subst hu; rfl
        case c3 => unfold maxLen; omega
        case c4 => omega
        case c5 => have := HBR.out.size; simp; omega
        intro v' w4 hown' hgrow _
        have HB4 := Lib.hid (show Below w2.heap.size w2 w4 from (bpush HBR.out _).grown hgrow (by have := HBR.out.size; simp; omega) (fun k hk => (hown.lt k hk).1))
        have HO4 := Lib.hid (show w4.ownsRow w2.heap.size 36 1 v' (k + 1) ((S.take (k + 1)).map fun x => Value.int .u64 (overZ B x)) by rw [HTK.out, List.map_append]; simpa using hown')
        clear hown' hgrow hown c0 hw1
        go_wp2_with fail
        go_roundw
        case rel => exact ⟨k + 1, by omega, by go_num, HO4, HB4⟩
        case measure => simp [intOf]; omega
      · have hki : ¬ (k : Int) < ((n - 1 : Nat) : Int) := by omega
        obtain rfl : k = n - 1 := by omega
        have hof := HO.out
        rw [List.take_of_length_le (by rw [HSL.out]; exact Nat.le_refl _), HSS.out, over_off HBB.out.symm, ← HOO.out] at hof
        obtain ⟨A7, c7, rfl, hr7, hc7, hn7⟩ := own_slice hof
        have HR7 := Lib.hid hr7
        have HO3 := Lib.hid (own_below HO2.out HBR.out)
        have HB3 := Lib.hid (bthen HB2.out HBR.out)
        have HOL2 := Lib.hid (show n - 1 = O.length by rw [HOO.out, HOL.out, HZ.out])
        clear hof hr7 hc7 hn7
        go_wp2_with fail
        refine (rwidth_any A7 (n - 1) c7 O _ HR7.out (by omega) HOL2.out HOS.out).mono ?_
        rintro e w3 ⟨rfl, rfl⟩
        rw [← HWW.out]
        go_wp2_with fail
        refine (rpack_good A7 (n - 1) c7 O W _ HR7.out (by omega) HOL2.out HOS.out hW64 (by rw [HWW.out]; exact Nat.le_refl _)).mono ?_
        rintro e w4 ⟨A4, c4, rfl, hr4, hn4, hbs4, hB4⟩
        obtain ⟨P, hP⟩ : ∃ P, P = packL O W := ⟨_, rfl⟩
        rw [← hP] at hr4 ⊢
        have HR4 := Lib.hid (show RowN w4 (some g) A4 (P.map (Value.int .u8)) from ⟨hr4, fun b5 off5 e _ e2 => by
          have h1 := hbs4 b5 off5 e
          cases e2
          have h2 := (HO3.out.lt g rfl).2
          omega⟩)
        have HN4 := Lib.hid hn4
        have HO4 := Lib.hid (own_below HO3.out hB4)
        have HB4 := Lib.hid (bthen HB3.out hB4)
        have hc4 := (HB4.out.cell (p := ⟨b, off, none⟩) (lt_of_cell HC0.out)).trans HC0.out
        have HP := Lib.hid hP
        have hPl : P.length ≤ 1000000 := by
          rw [hP, packL_length, ← HOL2.out]; unfold sizeN
          have := Nat.mul_le_mul (show n - 1 ≤ 65536 by omega) hW64
          omega
        obtain ⟨lp, hlp⟩ : ∃ lp, lp = P.length := ⟨_, rfl⟩
        rw [← hlp] at hPl ⊢
        have HLP := Lib.hid hlp
        clear hr4 hB4 hP hlp hn4 hbs4
        go_wp2_with fail
        refine (refint_any a _ ha1 ha2).mono ?_
        rintro e w5 ⟨g5, c5, rfl, hc5, ho5, hB5⟩
        have hla := (enc_bd a).2
        obtain ⟨F1, hF1⟩ : ∃ F, F = encV a := ⟨_, rfl⟩
        rw [← hF1] at ho5 hc5 hla ⊢
        obtain ⟨f1, hf1⟩ : ∃ f, f = F1.length := ⟨_, rfl⟩
        have HRF1 := Lib.hid (MadeB.row ho5)
        rw [← hf1] at hc5 hla ⊢
        have HF1 := Lib.hid hF1
        have HFL1 := Lib.hid hf1
        have HO5 := Lib.hid (own_below HO4.out hB5)
        have HB5 := Lib.hid (bthen HB4.out hB5)
        have HRP5 := Lib.hid (HR4.out.keep hB5)
        clear hB5 ho5 hF1 hf1 hc4
        go_wp2_with (at_builtin; refine append_bytes2 rfl _ _ rfl w.heap.size (.slice (some ⟨g, 0, none⟩) l1 cap) rfl l1 E1 HO5.out (some ⟨g5, 0, none⟩) f1 c5 F1 rfl HRF1.out HFL1.out (fun h => by cases h) (by omega) HB5.out.size ?_)
        intro v6 w6 ho6 hb6 hg6 hr6
        have HO6 := Lib.hid (show w6.ownsRow w.heap.size 5 1 v6 (l1 + f1) ((E1 ++ F1).map (Value.int .u8)) by simpa using ho6)
        have HB6 := Lib.hid (HB5.out.trans hb6)
        have HRP6 := Lib.hid (HRP5.out.step hg6 hr6)
        clear ho6 hb6 hg6 hr6
        go_wp2_with fail
        refine (refint_any B _ hB1 hB2).mono ?_
        rintro e w7 ⟨g7, c7, rfl, hc7, ho7, hB7⟩
        have hlb := (enc_bd B).2
        obtain ⟨F2, hF2⟩ : ∃ F, F = encV B := ⟨_, rfl⟩
        rw [← hF2] at ho7 hc7 hlb ⊢
        obtain ⟨f2, hf2⟩ : ∃ f, f = F2.length := ⟨_, rfl⟩
        have HRF2 := Lib.hid (MadeB.row ho7)
        rw [← hf2] at hc7 hlb ⊢
        have HF2 := Lib.hid hF2
        have HFL2 := Lib.hid hf2
        have HO7 := Lib.hid (own_below HO6.out hB7)
        have HB7 := Lib.hid (bthen HB6.out hB7)
        have HRP7 := Lib.hid (HRP6.out.keep hB7)
        clear hB7 ho7 hF2 hf2
        go_wp2_with (at_builtin; refine append_bytes2 rfl _ _ rfl w.heap.size v6 rfl (l1 + f1) (E1 ++ F1) HO7.out (some ⟨g7, 0, none⟩) f2 c7 F2 rfl HRF2.out HFL2.out (fun h => by cases h) (by omega) HB7.out.size ?_)
        intro v8 w8 ho8 hb8 hg8 hr8
        have HO8 := Lib.hid (show w8.ownsRow w.heap.size 5 1 v8 (l1 + f1 + f2) ((E1 ++ F1 ++ F2).map (Value.int .u8)) by simpa using ho8)
        have HB8 := Lib.hid (HB7.out.trans hb8)
        have HRP8 := Lib.hid (HRP7.out.step hg8 hr8)
        clear ho8 hb8 hg8 hr8
        go_wp2_with fail
        refine (refint_any (W : Int) _ (by omega) (by omega)).mono ?_
        rintro e w9 ⟨g9, c9, rfl, hc9, ho9, hB9⟩
        have hlw := (enc_bd (W : Int)).2
        obtain ⟨F3, hF3⟩ : ∃ F, F = encV (W : Int) := ⟨_, rfl⟩
        rw [← hF3] at ho9 hc9 hlw ⊢
        obtain ⟨f3, hf3⟩ : ∃ f, f = F3.length := ⟨_, rfl⟩
        have HRF3 := Lib.hid (MadeB.row ho9)
        rw [← hf3] at hc9 hlw ⊢
        have HF3 := Lib.hid hF3
        have HFL3 := Lib.hid hf3
        have HO9 := Lib.hid (own_below HO8.out hB9)
        have HB9 := Lib.hid (bthen HB8.out hB9)
        have HRP9 := Lib.hid (HRP8.out.keep hB9)
        clear hB9 ho9 hF3 hf3
        go_wp2_with (at_builtin; refine append_bytes2 rfl _ _ rfl w.heap.size v8 rfl (l1 + f1 + f2) (E1 ++ F1 ++ F2) HO9.out (some ⟨g9, 0, none⟩) f3 c9 F3 rfl HRF3.out HFL3.out (fun h => by cases h) (by omega) HB9.out.size ?_)
        intro vA wA hoA hbA hgA hrA
        have HOA := Lib.hid (show wA.ownsRow w.heap.size 5 1 vA (l1 + f1 + f2 + f3) ((E1 ++ F1 ++ F2 ++ F3).map (Value.int .u8)) by simpa using hoA)
        have HBA := Lib.hid (HB9.out.trans hbA)
        have HRPA := Lib.hid (HRP9.out.step hgA hrA)
        clear hoA hbA hgA hrA
        have HNP := Lib.hid (show A4 = none → lp = 0 ∧ c4 = 0 from fun h => by
          refine ⟨?_, HN4.out h⟩
          rcases HRPA.out.1 with h1 | ⟨b1, o1, h1, _⟩
          · simp at h1; rw [HLP.out, h1]; rfl
          · rw [h] at h1; cases h1)
        go_wp2_with (at_builtin; refine append_bytes2 rfl _ _ rfl w.heap.size vA rfl (l1 + f1 + f2 + f3) (E1 ++ F1 ++ F2 ++ F3) HOA.out A4 lp c4 P rfl HRPA.out.1 HLP.out HNP.out (by omega) HBA.out.size ?_)
        intro vC wC hoC hbC _ _
        have hEE : E1 ++ F1 ++ F2 ++ F3 ++ P = encZ L := by
          rw [HE.out, HF1.out, HF2.out, HF3.out, HP.out, HOO.out, HWW.out]
          unfold bodyZ
          rw [← HOO.out, ← HBB.out]; simp
        have HLN := Lib.hid (show l1 + f1 + f2 + f3 + lp = (encZ L).length by
          rw [← hEE]; simp only [List.length_append]; rw [← HL1.out, ← HFL1.out, ← HFL2.out, ← HFL3.out, ← HLP.out])
        have HOC := Lib.hid (show wC.ownsRow w.heap.size 5 1 vC (l1 + f1 + f2 + f3 + lp) ((encZ L).map (Value.int .u8)) by rw [← hEE]; simpa using hoC)
        have HBC := Lib.hid (HBA.out.trans hbC)
        clear hoC hbC hEE
        go_wp2_with fail
        go_ret2
        obtain ⟨AD, cD, rfl, hrD, hcD, hnD⟩ := own_slice HOC.out
        exact ⟨AD, cD, by rw [← HLN.out]; rfl, hrD, by rw [← HLN.out]; exact hcD, hnD, HBC.out⟩
end Go.Proofs.Ytedldajlioeioaa
