/- CheckTurned: its walk. -/
import Derived.Test.YtnnagjlpkieobaaDoorYJ
namespace Go.Proofs.YtnnagjlpkieobaaDoor
open Go.RowKit
set_option linter.unusedSimpArgs false
set_option linter.unusedVariables false
set_option maxRecDepth 100000 in
set_option maxHeartbeats 8000000 in
theorem turned_walk (A : Option Addr) (la ca : Nat) (X : List Int) (p q : Int) (W : Nat) (w : World) (hT : Tab w) (hA : Row w A (X.map (Value.int .u8))) (ha : la = X.length) (hca : la ≤ ca) (hcm : la ≤ 9223372036854775807) (bA : bytes X) (nA : A = none → ca = 0)
    (p1 : -9223372036854775808 ≤ p) (p2 : p ≤ 9223372036854775807) (q1 : -9223372036854775808 ≤ q) (q2 : q ≤ 9223372036854775807) (hW : W < 4294967296) :
    Calls Tryd.prog 5 #[.slice A la ca, .agg #[.int .i64 p, .int .i64 q], .int .u32 (W : Int)] w fun e w' => e = .returned (.bool true) ∧ Below w.heap.size w w' := by
  have HT := Lib.hid hT
  have HA := Lib.hid hA
  have HLA := Lib.hid ha
  have HBA := Lib.hid bA
  have HNA := Lib.hid nA
  clear hT hA ha bA nA
  obtain ⟨w0, hw0⟩ : ∃ w0, w0 = w.alloc (.cells #[.int .i64 p, .int .i64 q] 37) := ⟨_, rfl⟩
  obtain ⟨mb, hmb⟩ : ∃ mb, mb = w.heap.size := ⟨_, rfl⟩
  have HB0 := Lib.hid (show Below w.heap.size w w0 by rw [hw0]; exact bpush (Below.refl _ _) _)
  have hcp : w0.cell? ⟨mb, 0, none⟩ = some (.int .i64 p) := by rw [hw0, hmb]; simp
  have hcq : w0.cell? ⟨mb, 1, none⟩ = some (.int .i64 q) := by rw [hw0, hmb]; simp
  have hmlt : mb < w0.heap.size := by rw [hw0, hmb]; simp
  have HCP := Lib.hid hcp
  have HCQ := Lib.hid hcq
  have HW0 := Lib.hid hw0
  have HMB := Lib.hid hmb
  clear hw0 hmb hcp hcq
  by_cases h0 : 16777216 < la
  · have hi1 : (400 : Int) < (la : Int) := by omega
    go_enter Tryd.func5, Tryd.ntmps5
    go_wp2_with fail
    rw [← HMB.out, ← HW0.out]
    refine (block_big A la ca _ h0).mono ?_
    rintro e w1 ⟨rfl, rfl⟩
    go_wp2_with fail
    refine (alive_any _ (HT.out.keep HB0.out)).mono ?_
    rintro e w1 ⟨rfl, hb⟩
    have HB1 := Lib.hid (bthen HB0.out hb)
    clear hb
    go_wp2
    go_ret
    exact ⟨rfl, HB1.out⟩
  go_enter Tryd.func5, Tryd.ntmps5
  go_wp2_with fail
  rw [← HMB.out, ← HW0.out]
  refine (block_any A la ca X _ (HT.out.keep HB0.out) (HA.out.keep (Nat.le_refl _) HB0.out) HLA.out (by omega) HBA.out (fun h => by have := HNA.out h; omega)).mono ?_
  rintro e w1 ⟨A1, c1, rfl, hr1, hc1, hB1, ho1⟩
  have HR1 := Lib.hid hr1
  have HB1 := Lib.hid (bthen HB0.out hB1)
  have HBX := Lib.hid hB1
  have HO1 := Lib.hid ho1
  have HC1 := Lib.hid hc1
  have hcp1 := (hB1.cell (p := ⟨mb, 0, none⟩) hmlt).trans HCP.out
  have hcq := (hB1.cell (p := ⟨mb, 1, none⟩) hmlt).trans HCQ.out
  clear hr1 hB1 hc1 ho1
  obtain ⟨L, hL⟩ : ∃ l, l = (blockL X).length := ⟨_, rfl⟩
  rw [← hL]
  have HL := Lib.hid hL
  clear hL
  by_cases h1 : 400 < la
  · have hi1 : (400 : Int) < (la : Int) := by omega
    go_wp2_with fail
    refine (alive_any _ (HT.out.keep HB1.out)).mono ?_
    rintro e w2 ⟨rfl, hb⟩
    have HB2 := Lib.hid (bthen HB1.out hb)
    clear hb
    go_wp2
    go_ret
    exact ⟨rfl, HB2.out⟩
  obtain ⟨g, hg⟩ : ∃ g, g = (encV (X.length : Int)).length := ⟨_, rfl⟩
  have hg1 : 1 ≤ g ∧ g ≤ 10 := by rw [hg]; exact enc_bd _
  obtain ⟨hg1, hg2⟩ := hg1
  have hLg : L = g + la + 4 := by rw [HL.out, block_len, ← hg, HLA.out]
  have HG := Lib.hid hg
  have HLG := Lib.hid hLg
  have hi1 : (la : Int) ≤ 400 := by omega
  have s1 : (L : Int) - 4 = ((g + la : Nat) : Int) := by omega
  have s2 : ((g + la : Nat) : Int) - (la : Int) = (g : Int) := by omega
  have t1 : IntKind.i64.wrap ((L : Int) - 4) = ((g + la : Nat) : Int) := by rw [IntWalk.i64_in _ (by omega)]; omega
  have t2 : IntKind.i64.wrap (((g + la : Nat) : Int) - (la : Int)) = (g : Int) := by rw [IntWalk.i64_in _ (by omega)]; omega
  have hL0 : ((L : Int) == 0) = false := by simp; omega
  have hL1 : ¬ (L : Int) = 0 := by omega
  have hL5 : 5 ≤ L := by omega
  have hL9 : L ≤ 414 := by omega
  have hg1i : ¬ (g : Int) < 1 := by omega
  clear hg hLg
  obtain ⟨G, hG⟩ : ∃ G, G = g + la := ⟨_, rfl⟩
  rw [← hG] at s1 s2 t1 t2
  clear hG
  obtain ⟨gb, rfl, hgb⟩ : ∃ gb, A1 = some ⟨gb, 0, none⟩ ∧ w0.heap.size ≤ gb := by
    obtain ⟨gb, cap, he, _, _⟩ := Row.of_own HO1.out (by rw [← HL.out]; omega)
    cases he
    exact ⟨gb, rfl, (HO1.out.lt gb rfl).1⟩
  obtain ⟨z, hz1, hz⟩ : ∃ z : Nat, z < L ∧ (q.tmod (L : Int) = (z : Int) ∨ (q.tmod (L : Int) = -(z : Int) ∧ 0 < z)) := by
    have h := Int.natAbs_tmod q (L : Int)
    rw [Int.natAbs_natCast] at h
    refine ⟨q.natAbs % L, Nat.mod_lt _ (by omega), ?_⟩
    omega
  have HC0 := Lib.hid (show firstZ ((blockL X).take z) = none from block_cut (by have := HLA.out; omega) HBA.out (by rw [← HL.out]; exact hz1))
  have HCR := Lib.hid (show Row w1 (some ⟨gb, 0, none⟩) (((blockL X).take z).map (Value.int .u8)) from (HR1.out.part z).1)
  have HCL := Lib.hid (show z = ((blockL X).take z).length by rw [List.length_take, ← HL.out]; omega)
  have HCB := Lib.hid (show bytes ((blockL X).take z) from fun y hy => blockL_bytes HBA.out y (List.mem_of_mem_take hy))
  have hzc : (z : Int) ≤ (c1 : Int) := by have := HC1.out; have := HL.out; omega
  have hzc2 : z ≤ c1 := by omega
  have hz9 : z ≤ 414 := by omega
  rcases hz with hz | ⟨hz, hz0⟩
  all_goals (
    go_wp2_with fail
    refine (first_any (some ⟨gb, 0, none⟩) z c1 _ _ (HT.out.keep HB1.out) HCR.out HCL.out hzc2 (by omega) HCB.out (fun h => by cases h)).mono ?_
    rw [HC0.out]
    rintro e w2 ⟨rfl, hB2⟩
    have HB2 := Lib.hid (bthen HBX.out hB2)
    have HO2 := Lib.hid (own_below HO1.out hB2)
    have hcp2 := (HB2.out.cell (p := ⟨mb, 0, none⟩) hmlt).trans HCP.out
    clear hB2
    by_cases hW0 : W = 0
    · have hw0 : ((W : Int) == 0) = true := by simp; omega
      clear hcp1 hcq
      go_wp2_with fail
      refine (alive_any _ (HT.out.keep (bthen HB0.out HB2.out))).mono ?_
      rintro e w3 ⟨rfl, hb⟩
      have HB3 := Lib.hid (bthen (bthen HB0.out HB2.out) hb)
      clear hb
      go_wp2
      go_ret
      exact ⟨rfl, HB3.out⟩
    have hw0 : ((W : Int) == 0) = false := by simp; omega
    by_cases hp0 : p < 0
    · clear hcp1 hcq
      have hd : decide (p < 0) = true := by simp; omega
      go_wp2_with fail
      refine (alive_any _ (HT.out.keep (bthen HB0.out HB2.out))).mono ?_
      rintro e w3 ⟨rfl, hb⟩
      have HB3 := Lib.hid (bthen (bthen HB0.out HB2.out) hb)
      clear hb
      go_wp2
      go_ret
      exact ⟨rfl, HB3.out⟩
    obtain ⟨a, rfl⟩ : ∃ a : Nat, p = (a : Int) := ⟨p.toNat, by omega⟩
    have hdp : decide ((a : Int) < 0) = false := by simp
    have hmul : IntKind.i64.wrap (8 * (la : Int)) = 8 * (la : Int) := IntWalk.i64_in _ (by omega)
    have hsub : IntKind.i64.wrap (8 * (la : Int) - 32) = 8 * (la : Int) - 32 := IntWalk.i64_in _ (by omega)
    by_cases hpl : 8 * (la : Int) - 32 < (a : Int)
    · clear hcp1 hcq
      have hd : decide (8 * (la : Int) - 32 < (a : Int)) = true := by simp; omega
      go_wp2_with fail
      refine (alive_any _ (HT.out.keep (bthen HB0.out HB2.out))).mono ?_
      rintro e w3 ⟨rfl, hb⟩
      have HB3 := Lib.hid (bthen (bthen HB0.out HB2.out) hb)
      clear hb
      go_wp2
      go_ret
      exact ⟨rfl, HB3.out⟩
    have hd2 : decide (8 * (la : Int) - 32 < (a : Int)) = false := by simp; omega
    obtain ⟨E, hE⟩ : ∃ E, E = encV (X.length : Int) := ⟨_, rfl⟩
    obtain ⟨S, hS⟩ : ∃ S, S = sumB (sumN (headL X)) := ⟨_, rfl⟩
    have hbx : blockL X = E ++ X ++ S := by rw [blockL, ← hS, hE]; rfl
    have HEG := Lib.hid (show g = E.length by rw [hE]; exact HG.out)
    have HBXX := Lib.hid hbx
    have HE := Lib.hid hE
    have HS := Lib.hid hS
    clear hcp1 hcq hE hS hbx
    go_wp2_with fail
    go_loopw [14] (fun i wr => ∃ (i' : Nat) (ys : List Int), i' ≤ 32 ∧ i = .int .i64 i' ∧ Hid (ys.length = la) ∧ Hid (bytes ys) ∧ Hid (leN (E ++ ys) = leN (headL X) ^^^ 2 ^ (8 * g + a) * (W % 2 ^ i')) ∧ Hid (wr.ownsRow w0.heap.size 5 1 (.slice (some ⟨gb, 0, none⟩) L c1) L ((E ++ ys ++ S).map (Value.int .u8))) ∧ Hid (Below w0.heap.size w0 wr)) (fun i _ => 32 - (intOf i).toNat)
    case atStart => exact ⟨0, X, by omega, rfl, Lib.hid HLA.out.symm, HBA, Lib.hid (by rw [HE.out]; simp [headL, Nat.mod_one]), Lib.hid (by rw [← HBXX.out]; have h := HO2.out; rw [← HL.out] at h; exact h), HB2⟩
    case round =>
      obtain ⟨i, ys, hi, rfl, HYL, HYB, HYE, HYO, HBR⟩ := hrel
      have hcp3 := (HBR.out.cell (p := ⟨mb, 0, none⟩) hmlt).trans HCP.out
      by_cases hlt : i < 32
      · have hi1 : (i : Int) < 32 := by omega
        have hi0 : (0 : Int) ≤ (i : Int) := by omega
        obtain ⟨y, hy⟩ : ∃ y, y = W / 2 ^ i := ⟨_, rfl⟩
        obtain ⟨d, hd⟩ : ∃ d, d = y % 2 := ⟨_, rfl⟩
        have e9 : (W : Int) / 2 ^ i = (y : Int) := by rw [hy]; simp
        have e8 : (y : Int) % 2 = (d : Int) := by omega
        have hy9 : y < 4294967296 := by rw [hy]; exact Nat.lt_of_le_of_lt (Nat.div_le_self _ _) hW
        have HD := Lib.hid (show d = W / 2 ^ i % 2 by rw [hd, hy])
        have hd9 : d ≤ 1 := by omega
        clear hy hd
        by_cases hd1 : d = 1
        · subst hd1
          obtain ⟨K, hK⟩ : ∃ K, K = 8 * g + a + i := ⟨_, rfl⟩
          obtain ⟨j, hj⟩ : ∃ j, j = K / 8 := ⟨_, rfl⟩
          obtain ⟨r, hr⟩ : ∃ r, r = K % 8 := ⟨_, rfl⟩
          have hjl : j < g + la := by omega
          have hje : j < (E ++ ys).length := by rw [List.length_append, ← HEG.out, HYL.out]; exact hjl
          have hby : bytes (E ++ ys) := fun x hx => by
            rcases List.mem_append.1 hx with hx | hx
            · rw [HE.out] at hx; exact enc_bytes _ x hx
            · exact HYB.out x hx
          have hbj := hby _ (List.getElem_mem hje)
          obtain ⟨c, hc⟩ : ∃ c : Nat, c = (E ++ ys)[j].toNat := ⟨_, rfl⟩
          have hc9 : c < 256 := by omega
          have hr9 : r < 8 := by omega
          obtain ⟨v, hv⟩ : ∃ v, v = c ^^^ 2 ^ r := ⟨_, rfl⟩
          have h2r : 2 ^ r < 256 := Nat.pow_lt_pow_right (a := 2) (n := 8) (by omega) hr9
          have hv9 : v < 256 := by rw [hv]; exact Nat.xor_lt_two_pow (n := 8) hc9 h2r
          have hcell : wr.cell? ⟨gb, j, none⟩ = some (.int .u8 (c : Int)) := by
            have h := HYO.out.cellAt j (by omega)
            rw [h, List.getElem?_map, List.getElem?_append_left hje, List.getElem?_eq_getElem hje, hc]
            simp; omega
          have hfr := HYO.out.frozenAt j
          have hset := HYO.out.stored j (.int .u8 (v : Int))
          have hjg : g ≤ j := by omega
          have HO3 := Lib.hid (show (wr.setCell ⟨gb, j, none⟩ (.int .u8 (v : Int))).ownsRow w0.heap.size 5 1 (.slice (some ⟨gb, 0, none⟩) L c1) L ((E ++ ys.set (j - g) (v : Int) ++ S).map (Value.int .u8)) by
            have h := hset.1
            rw [← List.map_set, List.set_append_left _ _ hje, List.set_append_right _ _ (by rw [← HEG.out]; exact hjg), ← HEG.out] at h
            exact h)
          have HB3 := Lib.hid (HBR.out.setCell (p := ⟨gb, j, none⟩) hgb (.int .u8 (v : Int)))
          have HYE3 := Lib.hid (show leN (E ++ ys.set (j - g) (v : Int)) = leN (headL X) ^^^ 2 ^ (8 * g + a) * (W % 2 ^ (i + 1)) by
            have h := leN_set (E ++ ys) K (by rw [← hj]; exact hje) hby
            simp only [← hj, ← hr, ← hc, ← hv] at h
            rw [List.set_append_right _ _ (by rw [← HEG.out]; exact hjg), ← HEG.out] at h
            rw [h, HYE.out, mask_snoc, ← HD.out, Nat.mul_one, hK, Nat.xor_assoc])
          have HYB3 := Lib.hid (show bytes (ys.set (j - g) (v : Int)) from fun x hx => by
            rcases List.mem_or_eq_of_mem_set hx with hx | hx
            · exact HYB.out x hx
            · omega)
          have k0 : IntKind.i64.wrap (8 * (g : Int)) = 8 * (g : Int) := IntWalk.i64_in _ (by omega)
          have k3 : 8 * (g : Int) + (a : Int) + (i : Int) = (K : Int) := by omega
          have k4 : (K : Int) / 8 = (j : Int) := by omega
          have k5 : (K : Int) % 8 = (r : Int) := by omega
          have k6 : (K : Int).tdiv 8 = (j : Int) := by rw [Int.tdiv_eq_ediv_of_nonneg (by omega)]; exact k4
          have k7 : (K : Int).tmod 8 = (r : Int) := by rw [Int.tmod_eq_emod_of_nonneg (by omega)]; exact k5
          have hjL : (j : Int) < (L : Int) := by omega
          obtain ⟨R, hR⟩ : ∃ R, R = 2 ^ r := ⟨_, rfl⟩
          have k8 : (2 ^ r % 256 : Int) = (R : Int) := by
            rw [hR]
            have : ((2 ^ r : Nat) : Int) = (2 : Int) ^ r := by simp
            rw [this]
            have h3 : ((2 ^ r : Nat) : Int) < 256 := by omega
            rw [this] at h3
            have h4 : 0 ≤ (2 : Int) ^ r := by rw [← this]; omega
            omega
          have k9 : bits .xor .u8 (c : Int) (R : Int) = (v : Int) := by
            rw [hv, ← hR]; exact u8_xor_nat c R hc9 (by rw [hR]; exact h2r)
          clear hR hv h2r
          clear hK hj hr hc hset hby hbj hje
          go_wp2_with fail
          go_roundw
          case rel => exact ⟨i + 1, _, by omega, by go_num, Lib.hid (by rw [List.length_set]; exact HYL.out), HYB3.out, HYE3, HO3, HB3⟩
          case measure => simp [intOf]; omega
        · have hd0 : d = 0 := by omega
          subst hd0
          have HYE3 := Lib.hid (show leN (E ++ ys) = leN (headL X) ^^^ 2 ^ (8 * g + a) * (W % 2 ^ (i + 1)) by
            rw [HYE.out, mask_snoc, ← HD.out, Nat.mul_zero, Nat.xor_zero])
          go_wp2_with fail
          go_roundw
          case rel => exact ⟨i + 1, ys, by omega, by go_num, HYL, HYB, HYE3, HYO, HBR⟩
          case measure => simp [intOf]; omega
      · have hi1 : ¬ (i : Int) < 32 := by omega
        obtain rfl : i = 32 := by omega
        have HFN := Lib.hid (show firstZ (E ++ ys ++ S) = none by
          rw [HE.out, HS.out]
          refine block_turned (u := W) (a := 8 * g + a) (by have := HLA.out; omega) HBA.out HYB.out (by rw [HYL.out, HLA.out]) ?_ hW hW0 ?_
          · rw [← HE.out, HYE.out, show W % 2 ^ 32 = W by omega]
          · rw [headL, List.length_append, ← HG.out, ← HLA.out]; omega)
        have HRR := Lib.hid (show Row wr (some ⟨gb, 0, none⟩) ((E ++ ys ++ S).map (Value.int .u8)) by
          obtain ⟨gb', cap, he, _, hr⟩ := Row.of_own HYO.out (by omega)
          cases he; exact hr)
        have HLL := Lib.hid (show L = (E ++ ys ++ S).length by
          rw [List.length_append, List.length_append, ← HEG.out, HYL.out, HS.out]; rw [HLG.out]; rfl)
        have HBB := Lib.hid (show bytes (E ++ ys ++ S) from fun x hx => by
          rcases List.mem_append.1 hx with hx | hx
          · rcases List.mem_append.1 hx with hx | hx
            · rw [HE.out] at hx; exact enc_bytes _ x hx
            · exact HYB.out x hx
          · rw [HS.out] at hx; exact sumB_bytes _ x hx)
        clear hcp3
        have hLc : L ≤ c1 := by rw [HL.out]; exact HC1.out
        go_wp2_with fail
        refine (first_any (some ⟨gb, 0, none⟩) L c1 _ _ (HT.out.keep (bthen HB0.out HBR.out)) HRR.out HLL.out hLc (by omega) HBB.out (fun h => by cases h)).mono ?_
        rw [HFN.out]
        rintro e w4 ⟨rfl, hB4⟩
        have HB4 := Lib.hid (bthen (bthen HB0.out HBR.out) hB4)
        clear hB4
        go_wp2_with fail
        refine (alive_any _ (HT.out.keep HB4.out)).mono ?_
        rintro e w5 ⟨rfl, hb⟩
        have HB5 := Lib.hid (bthen HB4.out hb)
        clear hb
        go_wp2
        go_ret
        exact ⟨rfl, HB5.out⟩)
end Go.Proofs.YtnnagjlpkieobaaDoor
