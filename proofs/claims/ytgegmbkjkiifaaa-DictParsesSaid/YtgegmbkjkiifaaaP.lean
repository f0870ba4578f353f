/- The document's bytes of a dictionary. -/
import Derived.Test.YtgegmbkjkiifaaaO
namespace Go.Proofs.Ytgegmbkjkiifaaa
open Go.RowKit Go.Lib
set_option linter.unusedSimpArgs false
set_option linter.unusedVariables false
set_option maxRecDepth 100000 in
set_option maxHeartbeats 60000000 in
theorem refbytes_any (A : Option Addr) (n c : Nat) (D : List ByteArray) (w : World) (hA : Row w A (texts D)) (hn : n = D.length) (hn2 : n ≤ 65536) (hs : ∀ s ∈ D, s.size ≤ 100) :
    Calls Try.prog 20 #[.slice A n c] w (BytesPost w (bytesD D)) := by
  have HROW := Lib.hid hA
  have HS := Lib.hid hs
  obtain ⟨R, hR⟩ : ∃ R, R = bytesD D := ⟨_, rfl⟩
  have HN := Lib.hid hn
  have HR := Lib.hid hR
  rw [← hR]
  clear hA hs hn hR
  go_enter Try.func20, Try.ntmps20
  go_wp2_with fail
  refine (refint_any (n : Int) _ (by omega) (by omega)).mono ?_
  rintro e w1 ⟨g1, c1, rfl, hc1, ho1, hb1⟩
  have HB1 := Lib.hid hb1
  have HO1 := Lib.hid ho1
  clear hb1 ho1
  obtain ⟨l1, hl1⟩ : ∃ l1, l1 = (encV (n : Int)).length := ⟨_, rfl⟩
  rw [← hl1] at hc1 HO1 ⊢
  have hl1' : l1 ≤ 10 := by rw [hl1]; exact encV_len _
  clear hl1
  go_wp2_with fail
  go_loopw [3, 4, 5, 6] (fun v ah i q wr => ∃ (k t : Nat) (acc : List Int), k ≤ n ∧ t ≤ 10 + 120 * k ∧ i = .int .i64 k ∧ ah = .string (lastT ⟨#[]⟩ (D.take k)) ∧ Hid (wr.ownsRow w.heap.size 5 1 v t (acc.map (Value.int .u8))) ∧ Hid (Below w.heap.size w wr) ∧ Hid (acc = encV (n : Int) ++ codeL ⟨#[]⟩ (D.take k))) (fun _ _ i _ _ => n - (intOf i).toNat)
  case atStart => exact ⟨0, l1, encV (n : Int), Nat.zero_le _, by omega, rfl, rfl, HO1, HB1, Lib.hid (by simp [codeL])⟩
  case round =>
    obtain ⟨k, t, acc, hk, ht, rfl, rfl, HO, HBW, HA⟩ := hrel
    by_cases hlt : k < n
    · have hkz : k < D.length := by have := HN.out; omega
      have hki : (k : Int) < (n : Int) := by omega
      have hk0 : (0 : Int) ≤ (k : Int) := by omega
      obtain ⟨s, hs⟩ : ∃ s, s = D[k] := ⟨_, rfl⟩
      have HSS := Lib.hid hs
      have hsz : s.size ≤ 100 := by rw [hs]; exact HS.out _ (List.getElem_mem _)
      obtain ⟨a, ha⟩ : ∃ a, a = lastT ⟨#[]⟩ (D.take k) := ⟨_, rfl⟩
      rw [← ha]
      have HAA := Lib.hid ha
      have hasz : a.size ≤ 100 := by
        rw [ha]
        unfold lastT
        cases hg : (D.take k).getLast? with
        | none => show (⟨#[]⟩ : ByteArray).size ≤ 100; decide
        | some x => exact HS.out x (List.mem_of_mem_take (List.mem_of_getLast? hg))
      have HTK := Lib.hid (show D.take (k + 1) = D.take k ++ [s] by rw [hs]; exact take_snoc D k hkz)
      clear hs ha
      go_wp2_with fail
      obtain ⟨wo, rfl⟩ : ∃ wo : World, wo = wr := ⟨_, rfl⟩
      go_loopw [6] (fun q wr' => ∃ j : Nat, j ≤ a.size ∧ j ≤ s.size ∧ q = .int .i64 j ∧ Hid (∀ (i : Nat) (h : i < j), (dat a)[i]? = (dat s)[i]?) ∧ Hid (Below wo.heap.size wo wr')) (fun q _ => s.size - (intOf q).toNat)
      case atStart => exact ⟨0, Nat.zero_le _, Nat.zero_le _, rfl, Lib.hid (fun i h => by omega), Lib.hid (Below.refl _ _)⟩
      case round =>
        obtain ⟨j, hja, hjs, rfl, HJ, HBJ⟩ := hrel
        have hj0 : (0 : Int) ≤ (j : Int) := by omega
        have HT1 := Lib.hid (show (tailT s j).size ≤ 1000000 by rw [tailT_size]; omega)
        have HSL := Lib.hid (show ∀ W, Sem.run Try.prog (Instr.slice 9 (.string s) (some (.int .i64 (j : Int))) none none) W = .ok (.string (tailT s j)) W from fun W => by
          have := run_slice_string_l (P := Try.prog) (w := W) (t := 9) (s := s) Try.underlying9 .i64 (j : Int) (by omega) (by omega)
          simpa [tailT] using this)
        have HQ0 := Lib.hid (show ∀ l : Nat, l = (encV (j : Int)).length → l ≤ 10 from fun l h => by rw [h]; exact encV_len _)
        have HQ1 := Lib.hid (show ∀ (Y : List Int) (l : Nat), Y = encV ((tailT s j).size : Int) ++ sB (tailT s j) → l = Y.length → l ≤ 110 from fun Y l h1 h2 => by
          have k1 := encV_len ((tailT s j).size : Int); have k2 := tailT_size s j
          rw [h2, h1]; simp only [List.length_append, sB_length]; omega)
        obtain ⟨b, off, hAe, c0⟩ := text_cell (HROW.out.keep (Nat.le_refl _) (HBW.out.trans (HBJ.out.mono HBW.out.size))) hkz
        rw [← HSS.out] at c0
        subst hAe
        obtain ⟨la, hla⟩ : ∃ la, a.size = la := ⟨_, rfl⟩
        obtain ⟨ls, hls⟩ : ∃ ls, s.size = ls := ⟨_, rfl⟩
        by_cases h1 : j < la
        · have d1 : decide ((j : Int) < (la : Int)) = true := by simp; omega
          have i1 : (j : Int) < (la : Int) := by omega
          by_cases h2 : j < ls
          · have d2 : decide ((j : Int) < (ls : Int)) = true := by simp; omega
            have i2 : (j : Int) < (ls : Int) := by omega
            have hka2 : j < a.size := by omega
            have hkb2 : j < s.size := by omega
            obtain ⟨x, hx⟩ : ∃ x, (a[j]'hka2).toNat = x := ⟨_, rfl⟩
            obtain ⟨y, hy⟩ : ∃ y, (s[j]'hkb2).toNat = y := ⟨_, rfl⟩
            have hga := dat_get a j hka2
            have hgb := dat_get s j hkb2
            by_cases hxy : x = y
            · have hE : (dat a)[j]? = (dat s)[j]? := by rw [hga, hgb]; congr 1; exact UInt8.toNat_inj.1 (by rw [hx, hy, hxy])
              have HK2 := Lib.hid (show ∀ (i : Nat) (h : i < j + 1), (dat a)[i]? = (dat s)[i]? from fun i hi => by
                rcases Nat.lt_or_ge i j with e | e
                · exact HJ.out i e
                · obtain rfl : i = j := by omega
                  exact hE)
              have HSZ := Lib.hid (show j + 1 ≤ a.size ∧ j + 1 ≤ s.size by omega)
              subst hxy
              have d3 : ((x : Int) == (x : Int)) = true := by simp
              clear hE hga hgb h1 h2 hlt
              go_wp2_with fail
              go_quiet (fail)
              go_wp2_with fail
              go_roundw
              case rel => exact ⟨j + 1, HSZ.out.1, HSZ.out.2, by go_num, HK2, Lib.hid (below_drewN HBJ.out _)⟩
              case measure => simp [intOf]; omega
            · have HJC := Lib.hid (show j = cpT a s from (cpl_is HJ.out (by rw [dat_len]; omega) (by rw [dat_len]; omega) (.inr (by
                rw [hga, hgb]
                intro e
                injection e with e
                exact hxy (by rw [← hx, ← hy, e])))).symm)
              have d3 : ((x : Int) == (y : Int)) = false := by rw [beq_eq_false_iff_ne]; omega
              clear hga hgb h1 h2 hlt hxy
              go_wp2_with fail
              go_quiet (fail)
              have HBQ := Lib.hid (show ∀ w4, Below (wr.drewN nq).heap.size (wr.drewN nq) w4 → Below wo.heap.size wo w4 from fun w4 h => bthen (below_drewN HBJ.out nq) h)
              have HOQ := Lib.hid HO.out
              go_wp2_with fail
              refine (refint_any (j : Int) _ (by omega) (by omega)).mono ?_
              rintro e w4 ⟨g4, c4, rfl, hc4, ho4, hb4⟩
              have HR4 := Lib.hid (MadeB.row ho4)
              obtain ⟨l4, hl4⟩ : ∃ l4, l4 = (encV (j : Int)).length := ⟨_, rfl⟩
              rw [← hl4] at hc4 ⊢
              have hl4' : l4 ≤ 10 := HQ0.out _ hl4
              have HL4 := Lib.hid hl4
              have HB4 := Lib.hid (HBQ.out _ hb4)
              have HO4 := Lib.hid (own_below (n := t) (v := u3) (HOQ.out) HB4.out)
              have hs4 : w.heap.size ≤ w4.heap.size := Nat.le_trans HBW.out.size HB4.out.size
              clear hl4 ho4 hb4
              go_wp2_with (at_builtin; refine wpList_append8 rfl _ _ rfl w.heap.size _ t (acc.map (Value.int .u8)) rfl (some ⟨g4, 0, none⟩) l4 c4 (encV (j : Int)) rfl HO4.out HR4.out HL4.out hc4 ?nilx11 ?q1x11 hs4 ?_)
              try case nilx11 => (intro h; cases h)
              case q1x11 => omega
              intro v5 w5 ho5 hg5 _
              have HO5 := Lib.hid (show w5.ownsRow w.heap.size 5 1 v5 (t + l4) ((acc ++ encV (j : Int)).map (Value.int .u8)) by rw [List.map_append]; exact ho5)
              have HB5 := Lib.hid (show Below w.heap.size w w5 from (HBW.out.trans (HB4.out.mono HBW.out.size)).trans (grown_own HO4.out hg5 hs4))
              have hsl : ∀ W, Sem.run Try.prog (Instr.slice 9 (.string s) (some (.int .i64 (j : Int))) none none) W = .ok (.string (tailT s j)) W := HSL.out
              obtain ⟨b5, o5, he5, k5⟩ := text_cell (HROW.out.keep (Nat.le_refl _) HB5.out) hkz
              rw [← HSS.out] at k5
              cases he5
              clear ho5 hg5
              go_wp2_with fail
              refine (reftext_any (tailT s j) _ HT1.out).mono ?_
              rintro e w6 ⟨g6, c6, rfl, hc6, ho6, hb6⟩
              have HR6 := Lib.hid (MadeB.row ho6)
              obtain ⟨Y, hY⟩ : ∃ Y, Y = encV ((tailT s j).size : Int) ++ sB (tailT s j) := ⟨_, rfl⟩
              rw [← hY] at hc6 HR6 ⊢
              have HY := Lib.hid hY
              obtain ⟨l6, hl6⟩ : ∃ l6, l6 = Y.length := ⟨_, rfl⟩
              rw [← hl6] at hc6 ⊢
              have hl6' : l6 ≤ 110 := HQ1.out _ _ hY hl6
              have HL6 := Lib.hid hl6
              have HB6 := Lib.hid (show Below w.heap.size w w6 from HB5.out.trans (hb6.mono HB5.out.size))
              have HO6 := Lib.hid (own_below HO5.out hb6)
              clear hl6 ho6 hb6 hY hsl k5
              go_wp2_with (at_builtin; refine wpList_append8 rfl _ _ rfl w.heap.size _ (t + l4) ((acc ++ encV (j : Int)).map (Value.int .u8)) rfl (some ⟨g6, 0, none⟩) l6 c6 Y rfl HO6.out HR6.out HL6.out hc6 ?nilx12 ?q1x12 HB6.out.size ?_)
              try case nilx12 => (intro h; cases h)
              case q1x12 => omega
              intro v7 w7 ho7 hg7 _
              have HO7 := Lib.hid (show w7.ownsRow w.heap.size 5 1 v7 (t + l4 + l6) ((acc ++ encV (j : Int) ++ Y).map (Value.int .u8)) by simp only [List.map_append, List.append_assoc] at ho7 ⊢; exact ho7)
              have HB7 := Lib.hid (show Below w.heap.size w w7 from HB6.out.trans (grown_own HO6.out hg7 HB6.out.size))
              obtain ⟨b7, o7, he7, k7⟩ := text_cell (HROW.out.keep (Nat.le_refl _) HB7.out) hkz
              rw [← HSS.out] at k7
              cases he7
              have HA7 := Lib.hid (show acc ++ encV (j : Int) ++ Y = encV (n : Int) ++ codeL ⟨#[]⟩ (D.take (k + 1)) by
                rw [HTK.out, codeL_snoc, ← HAA.out, HA.out, HY.out]
                unfold codeT
                rw [← HJC.out, List.nil_append]
                simp only [List.append_assoc])
              have HS7 := Lib.hid (show Value.string s = .string (lastT ⟨#[]⟩ (D.take (k + 1))) by rw [HTK.out, lastT_snoc])
              clear ho7 hg7
              go_wp2_with fail
              go_roundw
              case rel => exact ⟨k + 1, t + l4 + l6, acc ++ encV (j : Int) ++ Y, by omega, by omega, by go_num, HS7.out, HO7, HB7, HA7⟩
              case measure => simp [intOf]; omega

          · have d2 : decide ((j : Int) < (ls : Int)) = false := by simp; omega
            have d2' : decide (j < ls) = false := by simp; omega
            have hjl : j = ls := by omega
            have HJC := Lib.hid (show j = cpT a s from (cpl_is HJ.out (by rw [dat_len]; omega) (by rw [dat_len]; omega) (.inl (by rw [dat_len, dat_len]; omega))).symm)
            clear h1 h2 hlt hjl
            go_wp2_with fail
            go_quiet (fail)
            have HBQ := Lib.hid (show ∀ w4, Below (wr.drewN nq).heap.size (wr.drewN nq) w4 → Below wo.heap.size wo w4 from fun w4 h => bthen (below_drewN HBJ.out nq) h)
            have HOQ := Lib.hid HO.out
            go_wp2_with fail
            refine (refint_any (j : Int) _ (by omega) (by omega)).mono ?_
            rintro e w4 ⟨g4, c4, rfl, hc4, ho4, hb4⟩
            have HR4 := Lib.hid (MadeB.row ho4)
            obtain ⟨l4, hl4⟩ : ∃ l4, l4 = (encV (j : Int)).length := ⟨_, rfl⟩
            rw [← hl4] at hc4 ⊢
            have hl4' : l4 ≤ 10 := HQ0.out _ hl4
            have HL4 := Lib.hid hl4
            have HB4 := Lib.hid (HBQ.out _ hb4)
            have HO4 := Lib.hid (own_below (n := t) (v := u3) (HOQ.out) HB4.out)
            have hs4 : w.heap.size ≤ w4.heap.size := Nat.le_trans HBW.out.size HB4.out.size
            clear hl4 ho4 hb4
            go_wp2_with (at_builtin; refine wpList_append8 rfl _ _ rfl w.heap.size _ t (acc.map (Value.int .u8)) rfl (some ⟨g4, 0, none⟩) l4 c4 (encV (j : Int)) rfl HO4.out HR4.out HL4.out hc4 ?nilx21 ?q1x21 hs4 ?_)
            try case nilx21 => (intro h; cases h)
            case q1x21 => omega
            intro v5 w5 ho5 hg5 _
            have HO5 := Lib.hid (show w5.ownsRow w.heap.size 5 1 v5 (t + l4) ((acc ++ encV (j : Int)).map (Value.int .u8)) by rw [List.map_append]; exact ho5)
            have HB5 := Lib.hid (show Below w.heap.size w w5 from (HBW.out.trans (HB4.out.mono HBW.out.size)).trans (grown_own HO4.out hg5 hs4))
            have hsl : ∀ W, Sem.run Try.prog (Instr.slice 9 (.string s) (some (.int .i64 (j : Int))) none none) W = .ok (.string (tailT s j)) W := HSL.out
            obtain ⟨b5, o5, he5, k5⟩ := text_cell (HROW.out.keep (Nat.le_refl _) HB5.out) hkz
            rw [← HSS.out] at k5
            cases he5
            clear ho5 hg5
            go_wp2_with fail
            refine (reftext_any (tailT s j) _ HT1.out).mono ?_
            rintro e w6 ⟨g6, c6, rfl, hc6, ho6, hb6⟩
            have HR6 := Lib.hid (MadeB.row ho6)
            obtain ⟨Y, hY⟩ : ∃ Y, Y = encV ((tailT s j).size : Int) ++ sB (tailT s j) := ⟨_, rfl⟩
            rw [← hY] at hc6 HR6 ⊢
            have HY := Lib.hid hY
            obtain ⟨l6, hl6⟩ : ∃ l6, l6 = Y.length := ⟨_, rfl⟩
            rw [← hl6] at hc6 ⊢
            have hl6' : l6 ≤ 110 := HQ1.out _ _ hY hl6
            have HL6 := Lib.hid hl6
            have HB6 := Lib.hid (show Below w.heap.size w w6 from HB5.out.trans (hb6.mono HB5.out.size))
            have HO6 := Lib.hid (own_below HO5.out hb6)
            clear hl6 ho6 hb6 hY hsl k5
            go_wp2_with (at_builtin; refine wpList_append8 rfl _ _ rfl w.heap.size _ (t + l4) ((acc ++ encV (j : Int)).map (Value.int .u8)) rfl (some ⟨g6, 0, none⟩) l6 c6 Y rfl HO6.out HR6.out HL6.out hc6 ?nilx22 ?q1x22 HB6.out.size ?_)
            try case nilx22 => (intro h; cases h)
            case q1x22 => omega
            intro v7 w7 ho7 hg7 _
            have HO7 := Lib.hid (show w7.ownsRow w.heap.size 5 1 v7 (t + l4 + l6) ((acc ++ encV (j : Int) ++ Y).map (Value.int .u8)) by simp only [List.map_append, List.append_assoc] at ho7 ⊢; exact ho7)
            have HB7 := Lib.hid (show Below w.heap.size w w7 from HB6.out.trans (grown_own HO6.out hg7 HB6.out.size))
            obtain ⟨b7, o7, he7, k7⟩ := text_cell (HROW.out.keep (Nat.le_refl _) HB7.out) hkz
            rw [← HSS.out] at k7
            cases he7
            have HA7 := Lib.hid (show acc ++ encV (j : Int) ++ Y = encV (n : Int) ++ codeL ⟨#[]⟩ (D.take (k + 1)) by
              rw [HTK.out, codeL_snoc, ← HAA.out, HA.out, HY.out]
              unfold codeT
              rw [← HJC.out, List.nil_append]
              simp only [List.append_assoc])
            have HS7 := Lib.hid (show Value.string s = .string (lastT ⟨#[]⟩ (D.take (k + 1))) by rw [HTK.out, lastT_snoc])
            clear ho7 hg7
            go_wp2_with fail
            go_roundw
            case rel => exact ⟨k + 1, t + l4 + l6, acc ++ encV (j : Int) ++ Y, by omega, by omega, by go_num, HS7.out, HO7, HB7, HA7⟩
            case measure => simp [intOf]; omega

        · have d1 : decide ((j : Int) < (la : Int)) = false := by simp; omega
          have d1' : decide (j < la) = false := by simp; omega
          have hjl : j = la := by omega
          have HJC := Lib.hid (show j = cpT a s from (cpl_is HJ.out (by rw [dat_len]; omega) (by rw [dat_len]; omega) (.inl (by rw [dat_len, dat_len]; omega))).symm)
          clear h1 hlt hjl
          go_wp2_with fail
          go_quiet (fail)
          have HBQ := Lib.hid (show ∀ w4, Below (wr.drewN nq).heap.size (wr.drewN nq) w4 → Below wo.heap.size wo w4 from fun w4 h => bthen (below_drewN HBJ.out nq) h)
          have HOQ := Lib.hid HO.out
          go_wp2_with fail
          refine (refint_any (j : Int) _ (by omega) (by omega)).mono ?_
          rintro e w4 ⟨g4, c4, rfl, hc4, ho4, hb4⟩
          have HR4 := Lib.hid (MadeB.row ho4)
          obtain ⟨l4, hl4⟩ : ∃ l4, l4 = (encV (j : Int)).length := ⟨_, rfl⟩
          rw [← hl4] at hc4 ⊢
          have hl4' : l4 ≤ 10 := HQ0.out _ hl4
          have HL4 := Lib.hid hl4
          have HB4 := Lib.hid (HBQ.out _ hb4)
          have HO4 := Lib.hid (own_below (n := t) (v := u3) (HOQ.out) HB4.out)
          have hs4 : w.heap.size ≤ w4.heap.size := Nat.le_trans HBW.out.size HB4.out.size
          clear hl4 ho4 hb4
          go_wp2_with (at_builtin; refine wpList_append8 rfl _ _ rfl w.heap.size _ t (acc.map (Value.int .u8)) rfl (some ⟨g4, 0, none⟩) l4 c4 (encV (j : Int)) rfl HO4.out HR4.out HL4.out hc4 ?nilx31 ?q1x31 hs4 ?_)
          try case nilx31 => (intro h; cases h)
          case q1x31 => omega
          intro v5 w5 ho5 hg5 _
          have HO5 := Lib.hid (show w5.ownsRow w.heap.size 5 1 v5 (t + l4) ((acc ++ encV (j : Int)).map (Value.int .u8)) by rw [List.map_append]; exact ho5)
          have HB5 := Lib.hid (show Below w.heap.size w w5 from (HBW.out.trans (HB4.out.mono HBW.out.size)).trans (grown_own HO4.out hg5 hs4))
          have hsl : ∀ W, Sem.run Try.prog (Instr.slice 9 (.string s) (some (.int .i64 (j : Int))) none none) W = .ok (.string (tailT s j)) W := HSL.out
          obtain ⟨b5, o5, he5, k5⟩ := text_cell (HROW.out.keep (Nat.le_refl _) HB5.out) hkz
          rw [← HSS.out] at k5
          cases he5
          clear ho5 hg5
          go_wp2_with fail
          refine (reftext_any (tailT s j) _ HT1.out).mono ?_
          rintro e w6 ⟨g6, c6, rfl, hc6, ho6, hb6⟩
          have HR6 := Lib.hid (MadeB.row ho6)
          obtain ⟨Y, hY⟩ : ∃ Y, Y = encV ((tailT s j).size : Int) ++ sB (tailT s j) := ⟨_, rfl⟩
          rw [← hY] at hc6 HR6 ⊢
          have HY := Lib.hid hY
          obtain ⟨l6, hl6⟩ : ∃ l6, l6 = Y.length := ⟨_, rfl⟩
          rw [← hl6] at hc6 ⊢
          have hl6' : l6 ≤ 110 := HQ1.out _ _ hY hl6
          have HL6 := Lib.hid hl6
          have HB6 := Lib.hid (show Below w.heap.size w w6 from HB5.out.trans (hb6.mono HB5.out.size))
          have HO6 := Lib.hid (own_below HO5.out hb6)
          clear hl6 ho6 hb6 hY hsl k5
          go_wp2_with (at_builtin; refine wpList_append8 rfl _ _ rfl w.heap.size _ (t + l4) ((acc ++ encV (j : Int)).map (Value.int .u8)) rfl (some ⟨g6, 0, none⟩) l6 c6 Y rfl HO6.out HR6.out HL6.out hc6 ?nilx32 ?q1x32 HB6.out.size ?_)
          try case nilx32 => (intro h; cases h)
          case q1x32 => omega
          intro v7 w7 ho7 hg7 _
          have HO7 := Lib.hid (show w7.ownsRow w.heap.size 5 1 v7 (t + l4 + l6) ((acc ++ encV (j : Int) ++ Y).map (Value.int .u8)) by simp only [List.map_append, List.append_assoc] at ho7 ⊢; exact ho7)
          have HB7 := Lib.hid (show Below w.heap.size w w7 from HB6.out.trans (grown_own HO6.out hg7 HB6.out.size))
          obtain ⟨b7, o7, he7, k7⟩ := text_cell (HROW.out.keep (Nat.le_refl _) HB7.out) hkz
          rw [← HSS.out] at k7
          cases he7
          have HA7 := Lib.hid (show acc ++ encV (j : Int) ++ Y = encV (n : Int) ++ codeL ⟨#[]⟩ (D.take (k + 1)) by
            rw [HTK.out, codeL_snoc, ← HAA.out, HA.out, HY.out]
            unfold codeT
            rw [← HJC.out, List.nil_append]
            simp only [List.append_assoc])
          have HS7 := Lib.hid (show Value.string s = .string (lastT ⟨#[]⟩ (D.take (k + 1))) by rw [HTK.out, lastT_snoc])
          clear ho7 hg7
          go_wp2_with fail
          go_roundw
          case rel => exact ⟨k + 1, t + l4 + l6, acc ++ encV (j : Int) ++ Y, by omega, by omega, by go_num, HS7.out, HO7, HB7, HA7⟩
          case measure => simp [intOf]; omega

    · have hge : ¬ (k : Int) < (n : Int) := by omega
      have HE := Lib.hid (show acc = R by
        rw [HA.out, HR.out, bytesD, ← HN.out, List.take_of_length_le (by have := HN.out; omega)])
      clear hlt
      go_wp2_with fail
      go_ret
      obtain ⟨A9, c9, e9, r9, h9, n9⟩ := own_slice HO.out
      have ht9 : t = R.length := by have := HO.out.1; simp at this; rw [← HE.out]; exact this.symm
      exact ⟨A9, c9, by show Ending.returned u3 = _; rw [e9, ht9], by rw [← HE.out]; exact r9, by rw [← ht9]; exact h9, n9, HBW.out⟩
end Go.Proofs.Ytgegmbkjkiifaaa
