/- CheckBack: its walk. -/
import Derived.Test.YtnnagjlpkieobaaDoorYL
namespace Go.Proofs.YtnnagjlpkieobaaDoor
open Go.RowKit
set_option linter.unusedSimpArgs false
set_option linter.unusedVariables false
theorem blocksF_pos : ∀ (f : Nat) (bs : List Int), (blocksF f bs).2 ≤ bs.length := by
  intro f
  induction f with
  | zero => intro bs; simp [blocksF]
  | succ f ih =>
    intro bs
    rw [blocksF]
    cases he : firstZ bs with
    | none => simp
    | some p =>
      obtain ⟨y, k⟩ := p
      have hb := firstZ_bd he
      have := ih (bs.drop k)
      rw [List.length_drop] at this
      simp only
      omega
set_option maxRecDepth 100000 in
set_option maxHeartbeats 8000000 in
theorem back_walk (Al A : Option Addr) (nl cl la ca : Nat) (lv : List Value) (Ls : List (List Int)) (X : List Int) (w : World) (hT : Tab w) (hAl : Row w Al lv) (hLs : Rws w none lv Ls) (hnl : nl = Ls.length) (hnm : nl ≤ 9223372036854775807) (bL : ∀ xs ∈ Ls, bytes xs) (hA : Row w A (X.map (Value.int .u8))) (ha : la = X.length) (hca : la ≤ ca) (hcm : la ≤ 9223372036854775807) (bA : bytes X) (nA : A = none → ca = 0) (hlm : ∀ xs ∈ Ls, xs.length ≤ 9223372036854775807) :
    Calls Tryd.prog 4 #[.slice Al nl cl, .slice A la ca] w fun e w' => e = .returned (.bool true) ∧ Below w.heap.size w w' := by
  obtain ⟨i0, hi0, hz0, hz1, hz2⟩ := info_parts Tryd.info5
  obtain ⟨j0, hj0, hy0, hy1, hy2⟩ := info_parts Tryd.info22
  have HT := Lib.hid hT
  have HA := Lib.hid hA
  have HLA := Lib.hid ha
  have HBA := Lib.hid bA
  have HNA := Lib.hid nA
  have HAL := Lib.hid hAl
  have HLS := Lib.hid hLs
  have HNL := Lib.hid hnl
  have HBL := Lib.hid bL
  have HLM := Lib.hid hlm
  clear hT hA ha bA nA hAl hLs hnl bL hlm
  go_enter Tryd.func4, Tryd.ntmps4
  go_wp2_with fail
  go_loopw [5, 6, 7] (fun vb vd i wr => ∃ (k m d : Nat) (vs : List Value) (D : List (List Int)), k ≤ nl ∧ k ≤ 20 ∧ i = .int .i64 k ∧ d ≤ k ∧ m ≤ 414 * k ∧ Hid (d = D.length) ∧ Hid (m = (flatB D).length) ∧ Hid (∀ xs ∈ D, bytes xs ∧ xs.length ≤ 100000) ∧ Hid (Rws w none vs D) ∧ Hid (wr.ownsRow w.heap.size 5 1 vb m ((flatB D).map (Value.int .u8))) ∧ Hid (wr.ownsRow w.heap.size 22 1 vd d vs) ∧ Hid (Below w.heap.size w wr)) (fun _ _ i _ => 20 - (intOf i).toNat)
  case atStart => exact ⟨0, 0, 0, [], [], by omega, by omega, rfl, by omega, by omega, Lib.hid rfl, Lib.hid rfl, Lib.hid (fun _ h => by cases h), Lib.hid (Rws.nil _ _), Lib.hid (World.ownsRow_nil _ _ _ _), Lib.hid (World.ownsRow_nil _ _ _ _), Lib.hid (Below.refl _ _)⟩
  case round =>
    obtain ⟨k, m, d, vs, D, hk, hk20, rfl, hdk, hmk, HD, HM, HDB, HVS, HOB, HOD, HBW⟩ := hrel
    by_cases hlt : k < nl ∧ k < 20
    · obtain ⟨hkn, hk2⟩ := hlt
      have hkL : k < Ls.length := by have := HNL.out; omega
      obtain ⟨x, hx⟩ : ∃ x, x = Ls[k] := ⟨_, rfl⟩
      have hxm : x ∈ Ls := by rw [hx]; exact List.getElem_mem _
      obtain ⟨ba, oa, A2, c2, rfl, hc2, hr2, hcc2, hnn2⟩ := HLS.out.at HAL.out (k := k) (xs := x) (by rw [hx]; exact List.getElem?_eq_getElem hkL)
      obtain ⟨lx, hlx⟩ : ∃ l, l = x.length := ⟨_, rfl⟩
      rw [← hlx] at hc2 hcc2
      have hlxm : lx ≤ 9223372036854775807 := by rw [hlx]; exact HLM.out x hxm
      have HBX := Lib.hid (HBL.out x hxm)
      have HR2 := Lib.hid hr2
      have HLX := Lib.hid hlx
      have HN2 := Lib.hid hnn2
      have hc3 := (HBW.out.cell (p := ⟨ba, oa + k, none⟩) (lt_of_cell hc2)).trans hc2
      have hki : (k : Int) < (nl : Int) := by omega
      have hk2i : (k : Int) < 20 := by omega
      have hk0 : (0 : Int) ≤ (k : Int) := by omega
      have hdk2 : decide ((k : Int) < 20) = true := by simp; omega
      have HC2 := Lib.hid hc2
      clear hx hxm hr2 hlx hnn2 hc2
      by_cases hbig : 400 < lx
      · have hb1 : (400 : Int) < (lx : Int) := by omega
        go_wp2_with fail
        go_roundw
        case rel => exact ⟨k + 1, m, d, vs, D, by omega, by omega, by go_num, by omega, by omega, HD, HM, HDB, HVS, HOB, HOD, HBW⟩
        case measure => simp [intOf]; omega
      · have hb1 : (lx : Int) ≤ 400 := by omega
        go_wp2_with fail
        refine (block_any A2 lx c2 x _ (HT.out.keep HBW.out) (HR2.out.keep (Nat.le_refl _) HBW.out) HLX.out (by omega) HBX.out (fun h => by have := HN2.out h; omega)).mono ?_
        rintro e w1 ⟨A3, c3, rfl, hr3, hcc3, hB3, ho3⟩
        obtain ⟨L, hL⟩ : ∃ l, l = (blockL x).length := ⟨_, rfl⟩
        rw [← hL] at hcc3 ho3 ⊢
        have hL5 : 5 ≤ L ∧ L ≤ 414 := by rw [hL, block_len, ← HLX.out]; have := enc_bd (x.length : Int); rw [← HLX.out] at this; omega
        obtain ⟨hL5, hL9⟩ := hL5
        obtain ⟨gb, rfl, hgb⟩ : ∃ gb, A3 = some ⟨gb, 0, none⟩ ∧ wr.heap.size ≤ gb := by
          obtain ⟨gb, cap, he, _, _⟩ := Row.of_own ho3 (by omega)
          cases he
          exact ⟨gb, rfl, (ho3.lt gb rfl).1⟩
        have HL := Lib.hid hL
        have HR3 := Lib.hid hr3
        have HB3 := Lib.hid hB3
        have HF := Lib.hid (show firstZ (blockL x) = some (x, L) by
          have h := first_own (x := x) (rest := []) (by have := HLX.out; omega) HBX.out (fun _ h => by cases h)
          rw [List.append_nil, ← hL] at h; exact h)
        clear hL hr3 hB3 ho3
        go_wp2_with fail
        refine (first_any (some ⟨gb, 0, none⟩) L c3 (blockL x) _ (HT.out.keep (bthen HBW.out HB3.out)) HR3.out HL.out (by omega) (by omega) (blockL_bytes HBX.out) (fun h => by cases h)).mono ?_
        rw [HF.out]
        rintro e w2 ⟨A4, c4, rfl, ho4, hr4, hB4⟩
        rw [← HLX.out]
        have HB4 := Lib.hid (bthen HB3.out hB4)
        have HR34 := Lib.hid (HR3.out.keep (Nat.le_refl _) hB4)
        have HBW4 := Lib.hid (bthen HBW.out HB4.out)
        have hc4 := (HB4.out.cell (p := ⟨ba, oa + k, none⟩) (lt_of_cell hc3)).trans hc3
        obtain ⟨q1, hq1⟩ : ∃ q, q = strOfNums x := ⟨_, rfl⟩
        have v1 : ∀ r, Sem.run Tryd.prog (convert 22 9 (.slice A4 lx c4)) (w2.drewN r) = .ok (.string q1) (w2.drewN r) := fun r => by
          rw [hq1]; exact conv_any (hr4.keep (Nat.le_refl _) (below_drewN (Below.refl _ _) _)) HLX.out
        have v2 : ∀ r, Sem.run Tryd.prog (convert 22 9 (.slice A2 lx c2)) (w2.drewN r) = .ok (.string q1) (w2.drewN r) := fun r => by
          rw [hq1]; exact conv_any ((HR2.out.keep (Nat.le_refl _) HBW4.out).keep (Nat.le_refl _) (below_drewN (Below.refl _ _) _)) HLX.out
        clear hr4 hB4 ho4 hq1 hc3
        go_wp2_with fail
        go_quiet (fail)
        go_wp2_with (at_builtin; refine wpList_append_own _ rfl _ _ 22 rfl w.heap.size 5 i0 (.int .u8 0) 1 1 Tryd.underlying22 hi0 hz0 hz1 hz2 rfl (by decide) u5 m _ rfl (own_below HOB.out (below_drewN HB4.out _)) ⟨gb, 0, none⟩ L c3 ((blockL x).map (Value.int .u8)) rfl ?h1 ?h2 ?h3 ?h4 ?h5 ?h6 ?_)
        case h1 => rw [List.length_map, ← HL.out, Nat.mul_one]
        case h2 => exact (HR34.out.keep (Nat.le_refl _) (below_drewN (Below.refl _ _) _)).adds _ rfl
        case h3 => intro u hu; simp only [List.mem_map] at hu; obtain ⟨x, _, rfl⟩ := hu; rfl
        case h4 => unfold maxLen; omega
        case h5 => omega
        case h6 => exact (below_drewN HBW4.out _).size
        intro vb' w5 hownb hgrow _
        rw [← List.map_append, ← flat_snoc] at hownb
        have hownd := (own_below HOD.out (below_drewN HB4.out _)).kept hgrow (own_apart HOD.out HOB.out).1
        have HB5 := Lib.hid (show Below w.heap.size w w5 from (below_drewN HBW4.out _).grown hgrow (below_drewN HBW4.out _).size (fun k hk => (HOB.out.lt k hk).1))
        have hc5 := (HB5.out.cell (p := ⟨ba, oa + k, none⟩) (lt_of_cell HC2.out)).trans HC2.out
        have HOB5 := Lib.hid hownb
        have HOD5 := Lib.hid hownd
        clear hownb hgrow hc4 v1 v2 hownd
        go_wp2_with (at_builtin; refine wpList_append_own _ rfl _ _ 29 rfl w.heap.size 22 j0 (.slice none 0 0) 1 24 Tryd.underlying29 hj0 hy0 hy1 hy2 rfl (by decide) u6 d vs rfl (HOD5.out.alloc _) ⟨w5.heap.size, 0, none⟩ 1 1 [.slice A2 lx c2] rfl rfl ?c1 ?c2 ?c3 ?c4 ?c5 ?_)
        case c1 => intro j u hj; match j, hj with | 0, hj => simp at hj; subst hj; simp [Addr.add]
        case c2 => intro u hu; simp at hu; subst hu; rfl
        case c3 => unfold maxLen; omega
        case c4 => omega
        case c5 => have := HB5.out.size; simp; omega
        intro vd' w6 hownd hgrow _
        have HB6 := Lib.hid (show Below w.heap.size w w6 from (bpush HB5.out _).grown hgrow (by have := HB5.out.size; simp; omega) (fun k hk => (HOD5.out.lt k hk).1))
        have HOB6 := Lib.hid ((HOB5.out.alloc (.cells #[.slice A2 lx c2] 22)).kept hgrow (own_apart HOD5.out HOB5.out).2)
        have HOD6 := Lib.hid hownd
        clear hownd hgrow hc5
        go_wp2_with fail
        go_roundw
        case rel => exact ⟨k + 1, m + L, d + 1, _, D ++ [x], by omega, by omega, by go_num, by omega, by omega, Lib.hid (by rw [HD.out]; simp), Lib.hid (by rw [flat_snoc, List.length_append, ← HM.out, ← HL.out]), Lib.hid (fun xs hxs => by
            rcases List.mem_append.1 hxs with h | h
            · exact HDB.out xs h
            · obtain rfl : xs = x := by simpa using h
              exact ⟨HBX.out, by have := HLX.out; omega⟩), Lib.hid (HVS.out.snoc HLX.out HR2.out hcc2 HN2.out (fun _ _ _ => by simp)), HOB6, HOD6, HB6⟩
        case measure => simp [intOf]; omega
    · have hx : (¬ (k : Int) < (nl : Int)) ∨ ((k : Int) < (nl : Int) ∧ decide ((k : Int) < 20) = false) := by
        by_cases h : (k : Int) < (nl : Int)
        · exact .inr ⟨h, by simp; omega⟩
        · exact .inl h
      have hk0 : (0 : Int) ≤ (k : Int) := by omega
      have hm9 : m ≤ 8280 := by omega
      have hd9 : d ≤ 20 := by omega
      obtain ⟨Ab, cb, rfl, hrb, hcb, hnb⟩ := own_slice HOB.out
      obtain ⟨Ad, cd, rfl, hrd, hcd, hnd⟩ := own_slice HOD.out
      have HRB := Lib.hid hrb
      have HRD := Lib.hid hrd
      have HNB := Lib.hid hnb
      have HND := Lib.hid hnd
      have HFB := Lib.hid (flat_bytes (fun xs h => (HDB.out xs h).1))
      have HBK := Lib.hid (show blocksZ (flatB D) = (D, m) by
        have h := blocks_own D [] HDB.out (fun _ h => by cases h)
        rw [List.append_nil, blocks_nil, ← HM.out] at h
        simpa using h)
      clear hrb hrd hnb hnd hlt
      rcases hx with hx | ⟨hx, hx2⟩
      all_goals (
        go_wp2_with fail
        refine (blocks_any Ab m cb (flatB D) _ (HT.out.keep HBW.out) HRB.out HM.out hcb (by omega) HFB.out HNB.out).mono ?_
        rw [HBK.out]
        rintro e w1 ⟨A1, c1, vs1, rfl, hr1, hs1, hc1, hn1, hB1⟩
        simp only at hs1 hc1 ⊢
        rw [← HD.out]
        have HR1 := Lib.hid hr1
        have HS1 := Lib.hid hs1
        have HB1 := Lib.hid (bthen HBW.out hB1)
        have HRD1 := Lib.hid (HRD.out.keep (Nat.le_refl _) hB1)
        have HRB1 := Lib.hid (HRB.out.keep (Nat.le_refl _) hB1)
        clear hr1 hs1 hB1 hc1 hn1
        go_wp2_with fail
        refine (same_any A1 Ad d c1 d cd vs1 vs D D _ HR1.out HRD1.out HS1.out (HVS.out.keep HB1.out) HD.out HD.out (by omega) (fun xs h => (HDB.out xs h).1) (fun xs h => (HDB.out xs h).1)).mono ?_
        rintro e w2 ⟨rfl, hq⟩
        rw [decide_eq_true (rfl : D = D)]
        have hB2 : Below w1.heap.size w1 w2 := by obtain ⟨nq, rfl⟩ := hq; exact below_drewN (Below.refl _ _) nq
        have HB2 := Lib.hid (bthen HB1.out hB2)
        have HRB2 := Lib.hid (HRB1.out.keep (Nat.le_refl _) hB2)
        have HRD2 := Lib.hid (HRD1.out.keep (Nat.le_refl _) hB2)
        clear hq hB2
        by_cases hbig : 400 < la
        · have hb1 : (400 : Int) < (la : Int) := by omega
          go_wp2_with fail
          refine (alive_any _ (HT.out.keep HB2.out)).mono ?_
          rintro e w3 ⟨rfl, hb⟩
          have HB3 := Lib.hid (bthen HB2.out hb)
          clear hb
          go_wp2
          go_ret
          exact ⟨rfl, HB3.out⟩
        · have hb1 : (la : Int) ≤ 400 := by omega
          go_wp2_with (at_builtin; refine append_bytes rfl _ _ rfl w2.heap.size (.slice (some ⟨w2.heap.size, 0, none⟩) 0 0) rfl 0 [] (own_empty (Nat.le_refl _)) Ab m cb (flatB D) rfl (HRB2.out.keep (Nat.le_refl _) (bpush (Below.refl _ _) _)) HM.out (fun h => by have := HNB.out h; omega) (by omega) (by simp) ?_)
          intro v4 w4 hown4 hB4
          have HB4 := Lib.hid ((bpush (Below.refl _ _) _).trans hB4)
          have HO4 := Lib.hid hown4
          clear hown4 hB4
          go_wp2_with (at_builtin; refine append_bytes rfl _ _ rfl w2.heap.size v4 rfl m (flatB D) HO4.out A la ca X rfl (HA.out.keep (Nat.le_refl _) (bthen HB2.out HB4.out)) HLA.out (fun h => by have := HNA.out h; omega) (by omega) HB4.out.size ?_)
          intro v5 w5 hown5 hB5
          rw [← List.map_append] at hown5
          obtain ⟨A5, c5, rfl, hr5, hc5, hn5⟩ := own_slice hown5
          have HRD5 := Lib.hid (HRD2.out.keep (Nat.le_refl _) (HB4.out.trans hB5))
          have HB5 := Lib.hid (bthen HB2.out (HB4.out.trans hB5))
          have HR5 := Lib.hid hr5
          have HN5 := Lib.hid hn5
          have HL5 := Lib.hid (show m + la = (flatB D ++ X).length by rw [List.length_append, ← HM.out, ← HLA.out])
          obtain ⟨D2, p2, hD2⟩ : ∃ D2 p2, blocksZ X = (D2, p2) := ⟨_, _, rfl⟩
          have HBK5 := Lib.hid (show blocksZ (flatB D ++ X) = (D ++ D2, m + p2) by
            have h := blocks_own D X HDB.out HBA.out
            rw [hD2, ← HM.out] at h
            exact h)
          have hd2l : D2.length ≤ 401 := by
            have := blocksF_len (X.length + 1) X
            rw [show blocksF (X.length + 1) X = (D2, p2) from hD2] at this
            have := HLA.out
            simp only at *
            omega
          have HFX := Lib.hid (show bytes (flatB D ++ X) from fun z hz => by
            rcases List.mem_append.1 hz with hz | hz
            · exact HFB.out z hz
            · exact HBA.out z hz)
          have hp2 : p2 ≤ 400 := by
            have := blocksF_pos (X.length + 1) X
            rw [show blocksF (X.length + 1) X = (D2, p2) from hD2] at this
            have := HLA.out
            simp only at *
            omega
          clear hown5 hB5 hr5 hn5 hD2
          go_wp2_with fail
          refine (blocks_any A5 (m + la) c5 (flatB D ++ X) _ (HT.out.keep HB5.out) HR5.out HL5.out hc5 (by omega) HFX.out HN5.out).mono ?_
          rw [HBK5.out]
          rintro e w6 ⟨A6, c6, vs6, rfl, hr6, hs6, hc6, hn6, hB6⟩
          simp only at hs6 hc6 ⊢
          obtain ⟨d6, hd6⟩ : ∃ d6, d6 = (D ++ D2).length := ⟨_, rfl⟩
          have hd66 : d ≤ d6 := by rw [hd6, List.length_append, ← HD.out]; omega
          rw [← hd6] at hc6 ⊢
          have HR6 := Lib.hid hr6
          have HS6 := Lib.hid hs6
          have HRD6 := Lib.hid (HRD5.out.keep (Nat.le_refl _) hB6)
          have HB6 := Lib.hid (bthen HB5.out hB6)
          clear hr6 hs6 hB6 hn6 hd6
          go_wp2_with fail
          refine (alive_any _ (HT.out.keep HB6.out)).mono ?_
          rintro e w7 ⟨rfl, hb7⟩
          have HB7 := Lib.hid (bthen HB6.out hb7)
          have HR7 := Lib.hid (rowv_take (HR6.out.keep (Nat.le_refl _) hb7) d)
          have HS7 := Lib.hid (show Rws w7 none (vs6.take d) D by
            have h := (HS6.out.keep hb7).take d
            rw [HD.out, List.take_left] at h
            rw [HD.out]; exact h)
          have HRD7 := Lib.hid (HRD6.out.keep (Nat.le_refl _) hb7)
          clear hb7
          have hdd : (d : Int) ≤ (d6 : Int) := by omega
          have hmm : (m : Int) ≤ (m : Int) + (p2 : Int) := by omega
          go_wp2_with fail
          refine (same_any A6 Ad d c6 d cd (vs6.take d) vs D D _ HR7.out HRD7.out HS7.out (HVS.out.keep HB7.out) HD.out HD.out (by omega) (fun xs h => (HDB.out xs h).1) (fun xs h => (HDB.out xs h).1)).mono ?_
          rintro e w8 ⟨rfl, nq, rfl⟩
          rw [decide_eq_true (rfl : D = D)]
          go_wp2_with fail
          go_ret
          exact ⟨rfl, below_drewN HB7.out _⟩)
end Go.Proofs.YtnnagjlpkieobaaDoor
