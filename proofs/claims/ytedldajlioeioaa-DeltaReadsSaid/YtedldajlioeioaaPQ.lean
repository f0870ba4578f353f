/- The document's Decode. -/
import Derived.Test.YtedldajlioeioaaPP
import Derived.Test.YtedldajlioeioaaPG
import Derived.Test.YtedldajlioeioaaPJ
import Derived.Test.YtedldajlioeioaaPR
import Derived.Test.YtedldajlioeioaaPH
namespace Go.Proofs.Ytedldajlioeioaa
open Go.RowKit
set_option linter.unusedSimpArgs false
set_option linter.unusedVariables false
theorem Bx.of_cells {w : World} {mb : Nat} {V : Value} (h : w.heap[mb]? = some (.cells #[V, .int .i64 0, .bool false] 54)) (hz : ∀ o, w.frozen? ⟨mb, o, none⟩ = false) : Bx w mb V 0 false := by
  refine ⟨by simp [World.cell?, h], by simp [World.cell?, h], by simp [World.cell?, h], fun o => ⟨hz o, fun ho => ?_⟩⟩
  simp [World.cell?, h]
  omega
theorem rowx_of {w w' : World} {A : Option Addr} {bs : List Int} {mb : Nat} (hA : Row w A (bs.map (Value.int .u8))) (hB : Below w.heap.size w w') (hm : w.heap.size ≤ mb) : RowX w' mb A bs := by
  have hA' := hA.keep (Nat.le_refl _) hB
  rcases hA' with h | ⟨b, off, rfl, hc⟩
  · exact .inl (List.map_eq_nil_iff.1 h)
  · rcases Nat.eq_zero_or_pos bs.length with h0 | h0
    · exact .inl (List.length_eq_zero_iff.1 h0)
    · obtain ⟨b2, o2, e, c2⟩ := hA.cell (i := 0) h0
      cases e
      have := lt_of_cell c2
      exact .inr ⟨b, off, rfl, by omega, hc⟩
theorem doc_zero {bs : List Int} {I1 : Nat} {b1 : Bool} {l2 : List Int} (h1 : Nx 0 65536 bs 0 false 0 I1 b1) (h : decZ bs = some l2) : b1 = false ∧ I1 = bs.length ∧ l2 = [] := by
  have hr := dec_read h
  rcases h1 with ⟨e1, p1, _, q1, r1, rfl⟩ | ⟨hb, _⟩
  · rw [List.drop_zero, Nat.sub_zero] at e1
    rw [read_0 e1 p1] at hr
    obtain rfl : [] = l2 := Option.some.inj hr
    have h2 := (dec_iff.1 h).2
    have e : encZ [] = encV 0 ++ [] := rfl
    rw [e] at h2
    have h3 := numP_split (v := 0) (by unfold i64; omega) []
    rw [h2, e1] at h3
    have h4 := congrArg Prod.snd h3
    simp only at h4
    rw [List.append_nil] at h2
    exact ⟨rfl, by rw [h4, h2], rfl⟩
  · rw [List.drop_zero] at hb
    obtain ⟨v, l, hp⟩ : ∃ v l, numP bs = (v, l) := ⟨_, _, rfl⟩
    rw [hp] at hb
    rw [read_n hp hb] at hr; cases hr
set_option maxRecDepth 100000 in
set_option maxHeartbeats 8000000 in
theorem rdecode_any (A : Option Addr) (n c : Nat) (bs : List Int) (w : World) (hA : Row w A (bs.map (Value.int .u8))) (hz : n = bs.length) (hn : n ≤ 1000000) (hb : bytes bs) (hnc : n ≤ c) (hnil : A = none → c = 0) (o : Option (List Int)) (ho : o = decZ bs) :
    Calls Try.prog 13 #[.slice A n c] w (DecP w o) := by
  obtain ⟨i0, hi0, hz0, hz1, hz2⟩ := info_parts Try.info3
  have HO := Lib.hid ho
  have HA := Lib.hid hA
  have HZ := Lib.hid hz
  have HBY := Lib.hid hb
  have HN := Lib.hid hnil
  have HNC := Lib.hid hnc
  clear ho hA hz hb hnil hnc
  have HX := Lib.hid (show Bx (w.alloc (.cells #[.slice A n c, .int .i64 0, .bool false] 54)) w.heap.size (.slice A n c) 0 false from
      Bx.of_cells (by show (w.heap.push _)[w.heap.size]? = _; exact Array.getElem?_push_size) (fun o => by simp))
  have HB2 := Lib.hid (show Below w.heap.size w (w.alloc (.cells #[.slice A n c, .int .i64 0, .bool false] 54)) from bpush (Below.refl _ _) _)
  go_enter Try.func13, Try.ntmps13
  go_wp2_with fail
  refine (refn_any w.heap.size A n c 0 false bs 0 65536 _ HX.out (HA.out.keep (Nat.le_refl _) HB2.out) hn HZ.out (Nat.zero_le _) HBY.out).mono ?_
  rintro e w3 ⟨N', I1, b1, hN1, rfl, hX3, hG3⟩
  have hb1 := hN1.bd (by omega) (by omega)
  obtain ⟨N, rfl⟩ := Int.eq_ofNat_of_zero_le hb1.1
  have hN9 : N ≤ 65536 := by omega
  have HI1 := Lib.hid (show I1 ≤ n by rw [HZ.out]; exact hN1.le (Nat.zero_le _))
  have HN1 := Lib.hid hN1
  have HX3 := Lib.hid hX3
  have HB3 := Lib.hid (grown_below hG3 HB2.out (Nat.le_refl _))
  clear hN1 hX3 hG3 hb1
  by_cases hN0 : 0 < N
  · have hNp : (0 : Int) < (N : Int) := by omega
    obtain ⟨n1, hn1⟩ : ∃ n1, n1 = N - 1 := ⟨_, rfl⟩
    have hw1 : IntKind.i64.wrap ((N : Int) - 1) = (n1 : Int) := by rw [IntWalk.i64_in _ (by omega)]; omega
    have hn19 : n1 ≤ 65535 := by omega
    have HN1E := Lib.hid hn1
    clear hn1
    go_wp2_with fail
    refine (refn_any w.heap.size A n c I1 b1 bs (-9223372036854775808) 9223372036854775807 _ HX3.out (HA.out.keep (Nat.le_refl _) HB3.out) hn HZ.out HI1.out HBY.out).mono ?_
    rintro e w4 ⟨f, I2, b2, hN2, rfl, hX4, hG4⟩
    have hf := hN2.bd (by omega) (by omega)
    have HF := Lib.hid (show i64 f by unfold i64; omega)
    have HI2 := Lib.hid (show I2 ≤ n by rw [HZ.out]; exact hN2.le (by rw [← HZ.out]; exact HI1.out))
    have HN2 := Lib.hid hN2
    have HX4 := Lib.hid hX4
    have HB4 := Lib.hid (grown_below hG4 HB3.out (Nat.le_refl _))
    clear hN2 hX4 hG4 hf
    go_wp2_with fail
    refine (refn_any w.heap.size A n c I2 b2 bs (-9223372036854775808) 9223372036854775807 _ HX4.out (HA.out.keep (Nat.le_refl _) HB4.out) hn HZ.out HI2.out HBY.out).mono ?_
    rintro e w5 ⟨b, I3, b3, hN3, rfl, hX5, hG5⟩
    have HI3 := Lib.hid (show I3 ≤ n by rw [HZ.out]; exact hN3.le (by rw [← HZ.out]; exact HI2.out))
    have HN3 := Lib.hid hN3
    have HX5 := Lib.hid hX5
    have HB5 := Lib.hid (grown_below hG5 HB4.out (Nat.le_refl _))
    clear hN3 hX5 hG5
    go_wp2_with fail
    refine (refn_any w.heap.size A n c I3 b3 bs 0 64 _ HX5.out (HA.out.keep (Nat.le_refl _) HB5.out) hn HZ.out HI3.out HBY.out).mono ?_
    rintro e w6 ⟨W', I4, b4, hN4, rfl, hX6, hG6⟩
    have hb4 := hN4.bd (by omega) (by omega)
    obtain ⟨W, rfl⟩ := Int.eq_ofNat_of_zero_le hb4.1
    have hW9 : W ≤ 64 := by omega
    have hI4 : I4 ≤ n := by rw [HZ.out]; exact hN4.le (by rw [← HZ.out]; exact HI3.out)
    have HN4 := Lib.hid hN4
    have HX6 := Lib.hid hX6
    have HB6 := Lib.hid (grown_below hG6 HB5.out (Nat.le_refl _))
    clear hN4 hX6 hG6 hb4
    obtain ⟨S, hS⟩ : ∃ S, S = sizeN n1 W := ⟨_, rfl⟩
    have HSI := Lib.hid (show ((n1 : Int) * (W : Int) + 7) / 8 = (S : Int) by rw [hS]; unfold sizeN; rw [Int.natCast_ediv, Int.natCast_add, Int.natCast_mul]; rfl)
    have HS := Lib.hid hS
    clear hS
    go_wp2_with fail
    refine (rsize_good _ _ _ (by omega) (by omega) (by omega) (by omega)).mono ?_
    rintro e w7 ⟨rfl, rfl⟩
    rw [HSI.out]
    go_wp2_with fail
    by_cases hSn : S ≤ n - I4
    · refine (refbytes_good w.heap.size A n c I4 S b4 bs _ HX6.out (rowx_of HA.out HB6.out (Nat.le_refl _)) HN.out HNC.out hn HZ.out (by omega)).mono ?_
      rintro e w7 ⟨v, ⟨rfl, hX7, hG7⟩, A2, c2, rfl, hr2, hn2⟩
      obtain ⟨P, hP⟩ : ∃ P, P = (bs.drop I4).take S := ⟨_, rfl⟩
      rw [← hP] at hr2 ⊢
      have HPL := Lib.hid (show S = P.length by rw [hP, List.length_take, List.length_drop, ← HZ.out]; omega)
      rw [← HPL.out]
      have HP := Lib.hid hP
      have HPB := Lib.hid (show bytes P by rw [hP]; intro x hx; exact HBY.out x (List.mem_of_mem_drop (List.mem_of_mem_take hx)))
      have HR2 := Lib.hid hr2
      have HX7 := Lib.hid hX7
      have HB7 := Lib.hid (grown_below hG7 HB6.out (Nat.le_refl _))
      clear hP hr2 hX7 hG7 hn2
      go_wp2_with fail
      refine (runpack_any A2 S c2 P n1 W _ HR2.out HPL.out HPB.out (by omega) (by omega) hW9 HS.out).mono ?_
      intro e w8 hpost
      by_cases hzz : numF (bitB P) (n1 * W) (8 * S - n1 * W) = 0
      · obtain ⟨A3, c3, rfl, hr3, hB8⟩ := hpost.1 hzz
        obtain ⟨U, hU⟩ : ∃ U, U = unp P W n1 := ⟨_, rfl⟩
        have HUL := Lib.hid (show U.length = n1 by rw [hU]; exact unp_length _ _ _)
        rw [← hU] at hr3 ⊢
        rw [HUL.out]
        have HR3 := Lib.hid hr3
        have HB8 := Lib.hid (bthen HB7.out hB8)
        have HX8 := Lib.hid (HX7.out.grown (below_grown hB8 none) (lt_of_cell HX7.out.1) (by simp))
        have HD := Lib.hid (show ∀ l2, decZ bs = some l2 → b4 = false ∧ I4 + S = n ∧ l2 = walkZ b f U from fun l2 hd => by
          have h := doc_read HN1.out hN0 HN2.out HN3.out HN4.out (dec_read hd)
          rw [← HN1E.out, ← HS.out] at h
          have h2 := h.2.1
          have h3 : P = bs.drop I4 := by rw [HP.out, List.take_of_length_le (by omega)]
          rw [List.length_drop, ← HZ.out] at h2
          exact ⟨h.1, by omega, by rw [hU, h3]; exact h.2.2.2⟩)
        clear hpost hzz hU hr3 hB8
        go_wp2_with (at_builtin; refine wpList_append_own _ rfl _ _ 22 rfl w8.heap.size 3 i0 (.int .i64 0) 1 8 Try.underlying22 hi0 hz0 hz1 hz2 rfl (by decide) (.slice none 0 0) 0 [] rfl (World.ownsRow_nil _ _ _ _) ⟨w8.heap.size, 0, none⟩ 1 1 [.int .i64 f] rfl rfl ?c1 ?c2 ?c3 ?c4 ?c5 ?_)
        try case c1 => intro j u hj; match j, hj with | 0, hj => simp at hj; subst hj; simp [Addr.add]
        try case c2 => first | rfl | (intro u hu; simp at hu; subst hu; rfl)
        case c3 => first | decide | (unfold maxLen; omega)
        case c4 => omega
        case c5 => simp
        intro v0 w9 hown' hgrow _
        have HB9 := Lib.hid (show Below w8.heap.size w8 w9 from (bpush (Below.refl _ _) _).grown hgrow (by simp) (fun k hk => by simp [Value.ownBlock] at hk))
        have HO9 := Lib.hid (show w9.ownsRow w8.heap.size 3 1 v0 (0 + 1) ((walkZ b f (U.take 0)).map (Value.int .i64)) by show w9.ownsRow _ 3 1 v0 (0 + 1) [Value.int .i64 f]; simpa using hown')
        clear hown' hgrow
        go_wp2_with fail
        go_loopw [6, 16] (fun v i wr => ∃ k : Nat, k ≤ n1 ∧ i = .int .i64 k ∧ Hid (wr.ownsRow w8.heap.size 3 1 v (k + 1) ((walkZ b f (U.take k)).map (Value.int .i64))) ∧ Hid (Below w8.heap.size w8 wr)) (fun _ i _ => n1 - (intOf i).toNat)
        case atStart => exact ⟨0, by omega, rfl, HO9, HB9⟩
        case round =>
          obtain ⟨k, hk, rfl, HOW, HBR⟩ := hrel
          by_cases hlt : k < n1
          · have hkz : k < U.length := by rw [HUL.out]; exact hlt
            have hc0 := (u64s_cell (HR3.out.keep (Nat.le_refl _) HBR.out) hkz)
            obtain ⟨b6, off6, rfl, c0⟩ := hc0
            obtain ⟨u, hu⟩ : ∃ u, U[k]? = some u := ⟨_, List.getElem?_eq_getElem hkz⟩
            rw [show U[k] = u from Option.some.inj ((List.getElem?_eq_getElem hkz).symm.trans hu)] at c0
            have htl : (U.take k).length = k := by rw [List.length_take]; omega
            obtain ⟨y, hy⟩ : ∃ y, y = (walkZ b f (U.take k)).getLastD 0 := ⟨_, rfl⟩
            have hlast := walk_last b f (U.take k)
            rw [htl, ← hy] at hlast
            obtain ⟨gl, cl, rfl, hcl, hrl⟩ := Row.of_own HOW.out (by omega)
            have c1 := HOW.out.cellAt k (by omega)
            rw [List.getElem?_map, hlast] at c1
            replace c1 : wr.cell? ⟨gl, k, none⟩ = some (.int .i64 y) := c1
            obtain ⟨z, hz⟩ : ∃ z, z = wrap64 (y + b + (u : Int)) := ⟨_, rfl⟩
            have HTK := Lib.hid (show walkZ b f (U.take (k + 1)) = walkZ b f (U.take k) ++ [z] by
              rw [take_snoc _ k hkz, walk_snoc, ← hy, hz]
              congr 3
              rw [show U[k] = u from Option.some.inj ((List.getElem?_eq_getElem hkz).symm.trans hu)])
            have hw3 : wrap64 (wrap64 (y + b) + wrap64 (u : Int)) = z := by rw [hz]; unfold wrap64; omega
            have hw4 : IntKind.i64.wrap (IntKind.i64.wrap (y + b) + IntKind.i64.wrap (u : Int)) = z := by rw [IntWalk.i64_left, IntWalk.i64_left, IntWalk.i64_left]; exact hw3
            have hki : (k : Int) < (n1 : Int) := by omega
            have hk0 : (0 : Int) ≤ (k : Int) := by omega
            have hkl : (k : Int) < (k : Int) + 1 := by omega
            have hown := HOW.out
            have hglw : gl < wr.heap.size := lt_of_cell c1
            have hb6w : b6 < wr.heap.size := lt_of_cell c0
            have HXK := Lib.hid (show ((walkZ b f (U.take k)).map (Value.int .i64))[k]? = some (.int .i64 y) by rw [List.getElem?_map, hlast]; rfl)
            have hag : b6 ≠ gl := by
              have h1 := (hown.lt gl rfl).1
              obtain ⟨b7, o7, e7, c7⟩ := u64s_cell HR3.out hkz
              cases e7
              have := lt_of_cell c7
              omega
            have HAG := Lib.hid (show some b6 ≠ some gl from fun e => hag (Option.some.inj e))
            have HCA := Lib.hid (show ∀ o : Obj, (wr.alloc o).drew.cell? ⟨b6, off6 + k, none⟩ = some (.int .u64 (u : Nat)) ∧ (wr.alloc o).drew.cell? ⟨gl, k, none⟩ = some (.int .i64 y) from fun o =>
              ⟨(((Below.refl _ wr).alloc (Nat.le_refl _) o).drew.cell (p := ⟨b6, off6 + k, none⟩) hb6w).trans c0, (((Below.refl _ wr).alloc (Nat.le_refl _) o).drew.cell (p := ⟨gl, k, none⟩) hglw).trans c1⟩)
            clear hu htl hy hlast hrl hz hag
            go_wp2_with fail
            go_region_held3 (fun w' => w'.cell? ⟨b6, off6 + k, none⟩ = some (.int .u64 (u : Nat)) ∧ w'.cell? ⟨gl, k, none⟩ = some (.int .i64 y))
              (first
                | go_keep
                | exact ⟨by rw [hgrow.cell_far _ (by simp; omega) HAG.out]; exact (HCA.out _).1, hkeep k _ HXK.out⟩)
              ((refine step_append_keep (by rfl) _ _ _ (by rfl) w8.heap.size 3 i0 _ 8 Try.underlying22 hi0 hz0 hz1 hz2 rfl gl cl (k + 1) _ (by rfl) ((hown.alloc _).drew)
                  ⟨wr.heap.size, 0, none⟩ 1 (.int .i64 z) (by rfl) (World.news_of_block (cs := #[.int .i64 z]) (t := 3) (fr := (0, 0)) (heap_alloc_new wr _)) (by simp [Value.oneCell'])
                  (by unfold maxLen; omega) (by omega) (by have := HBR.out.size; simp; omega) (wr.heap.size + 1) (by simp) ?_; intro gg cap2 w10 hown' hgrow hkeep hlt9))
            have HB10 := Lib.hid (show Below w8.heap.size w8 w10 from by first | exact (bpush HBR.out _).drew.grown hgrow (by have := HBR.out.size; simp; omega) (fun k hk => (hown.lt k hk).1) | exact (bpush HBR.out _).grown hgrow (by have := HBR.out.size; simp; omega) (fun k hk => (hown.lt k hk).1))
            have HO10 := Lib.hid (show w10.ownsRow w8.heap.size 3 1 (.slice (some ⟨gg, 0, none⟩) (k + 1 + 1) cap2) (k + 1 + 1) ((walkZ b f (U.take (k + 1))).map (Value.int .i64)) by rw [HTK.out, List.map_append]; simpa using hown')
            clear hown' hgrow hown hkeep c0 c1 hw3 hw4 hlt9
            go_wp2
            go_roundw
            case rel => exact ⟨k + 1, by omega, by go_num, HO10, HB10⟩
            case measure => simp [intOf]; omega
          · have hki : ¬ (k : Int) < (n1 : Int) := by omega
            have hkn : k = n1 := by omega
            have hof := HOW.out
            rw [List.take_of_length_le (by rw [HUL.out]; omega)] at hof
            obtain ⟨Al, cl, rfl, hr7, hc7, hn7⟩ := own_slice hof
            have HRL := Lib.hid hr7
            have HNL := Lib.hid hn7
            have HCL := Lib.hid hc7
            have HKL := Lib.hid (show k + 1 = (walkZ b f U).length by rw [walk_length, HUL.out, hkn])
            have HLI := Lib.hid (walk_ints b U f HF.out)
            have HX9 := Lib.hid (HX8.out.grown (below_grown HBR.out none) (lt_of_cell HX8.out.1) (by simp))
            have HB9 := Lib.hid (bthen HB8.out HBR.out)
            clear hof hr7 hn7 hc7 hlt hkn
            go_wp2_with fail
            refine (rencode_any Al (k + 1) cl (walkZ b f U) _ HRL.out HKL.out (by omega) HLI.out).mono ?_
            rintro e w10 ⟨A1, c1, rfl, hr1, hc1, hn1, hB1⟩
            obtain ⟨E, hE⟩ : ∃ E, E = encZ (walkZ b f U) := ⟨_, rfl⟩
            rw [← hE] at hr1 ⊢
            obtain ⟨q, hq⟩ : ∃ q, q = E.length := ⟨_, rfl⟩
            rw [← hq]
            have HE := Lib.hid hE
            have HQ := Lib.hid hq
            have HR1 := Lib.hid hr1
            have HX10 := Lib.hid (HX9.out.grown (below_grown hB1 none) (lt_of_cell HX9.out.1) (by simp))
            have HRL10 := Lib.hid (HRL.out.keep (Nat.le_refl _) hB1)
            have HB10 := Lib.hid (bthen HB9.out hB1)
            clear hE hq hr1 hn1 hB1 hc1
            obtain ⟨r, hr⟩ : ∃ r : Bool, r = true ↔ b4 = false ∧ (I4 + S) = n := ⟨decide (b4 = false ∧ (I4 + S) = n), by simp⟩
            have HRR := Lib.hid hr
            clear hr
            go_wp2_with fail
            refine (whole_any w.heap.size A n c (I4 + S) b4 _ HX10.out r HRR.out).mono ?_
            rintro e w11 ⟨rfl, hq11⟩
            have HR11 := Lib.hid (show Row w11 A1 (E.map (Value.int .u8)) by obtain ⟨m, rfl⟩ := hq11; exact HR1.out.keep (Nat.le_refl _) (below_drewN (Below.refl _ _) m))
            have HRL11 := Lib.hid (show Row w11 Al ((walkZ b f U).map (Value.int .i64)) by obtain ⟨m, rfl⟩ := hq11; exact HRL10.out.keep (Nat.le_refl _) (below_drewN (Below.refl _ _) m))
            have HB11 := Lib.hid (show Below w.heap.size w w11 by obtain ⟨m, rfl⟩ := hq11; exact below_drewN HB10.out m)
            clear hq11
            cases r with
            | false =>
              obtain rfl : o = none := by
                rw [HO.out]
                cases hd : decZ bs with
                | none => rfl
                | some l2 =>
                  have h := HD.out l2 hd
                  exact absurd (HRR.out.2 ⟨h.1, h.2.1⟩) (by simp)
              go_wp2_with fail
              go_ret2
              exact ⟨rfl, HB11.out⟩
            | true =>
              obtain ⟨t, ht⟩ : ∃ s, s = strOfNums E := ⟨_, rfl⟩
              obtain ⟨t2, ht2⟩ : ∃ s, s = strOfNums bs := ⟨_, rfl⟩
              have v1 := conv_any (c := c1) HR11.out HQ.out
              have v2 := conv_any (c := c) (HA.out.keep (Nat.le_refl _) HB11.out) HZ.out
              rw [← ht] at v1
              rw [← ht2] at v2
              have HT := Lib.hid ht
              have HT2 := Lib.hid ht2
              by_cases hEq : encZ (walkZ b f U) = bs
              · obtain rfl : o = some (walkZ b f U) := by rw [HO.out]; exact dec_iff.2 ⟨⟨HLI.out, by rw [← HKL.out]; omega⟩, hEq⟩
                have htt : t2 = t := by rw [HT.out, HT2.out, HE.out, hEq]
                rw [htt] at v2
                clear ht ht2 hEq htt
                go_wp2_with fail
                go_ret2
                exact ⟨⟨Al, cl, by rw [← HKL.out]; first | done | rfl, HRL11.out, by rw [← HKL.out]; exact HCL.out, HNL.out⟩, HB11.out⟩
              · obtain rfl : o = none := by
                  rw [HO.out]
                  cases hd : decZ bs with
                  | none => rfl
                  | some l2 =>
                    have h := HD.out l2 hd
                    have h2 := (dec_iff.1 hd).2
                    rw [h.2.2] at h2; exact absurd h2 hEq
                have hne : t ≠ t2 := by
                  rw [HT.out, HT2.out, HE.out]
                  intro h; exact hEq (strOf_inj enc_byte HBY.out h)
                have hs1 := str_ne hne
                have hs2 : (t.toList != t2.toList) = true := by simp [bne, hs1]
                clear ht ht2 hEq hne
                go_wp2_with fail
                go_ret2
                exact ⟨rfl, HB11.out⟩
      · obtain ⟨A3, c3, rfl, hr3, hB8⟩ := hpost.2 hzz
        have ho : o = none := by
          rw [HO.out]
          cases hd : decZ bs with
          | none => rfl
          | some l2 =>
            have h := doc_read HN1.out hN0 HN2.out HN3.out HN4.out (dec_read hd)
            rw [List.length_drop] at h
            exfalso
            rw [← HZ.out, ← HN1E.out, ← HS.out] at h; have h3 : P = bs.drop I4 := by { rw [HP.out, List.take_of_length_le]; rw [List.length_drop, ← HZ.out]; omega }; rw [← h3] at h; have h4 := h.2.2.1; rw [h.2.1] at h4; exact hzz h4
        subst ho
        have HB8 := Lib.hid (bthen HB7.out hB8)
        clear hpost hzz hr3 hB8
        go_wp2_with fail
        go_ret2
        exact ⟨rfl, HB8.out⟩
    · refine (refbytes_bad w.heap.size A n c I4 b4 S _ HX6.out hn hI4 (.inr (by omega))).mono ?_
      rintro e w7 ⟨rfl, hX7, hG7⟩
      have HB7 := Lib.hid (grown_below hG7 HB6.out (Nat.le_refl _))
      clear hX7 hG7
      go_wp2_with fail
      refine (runpack_size none 0 0 n1 W _ (by omega) (by omega) hW9 (by rw [← HS.out]; omega)).mono ?_
      rintro e w8 ⟨A3, c3, rfl, hr3, hB8⟩
      have ho : o = none := by
        rw [HO.out]
        cases hd : decZ bs with
        | none => rfl
        | some l2 =>
          have h := doc_read HN1.out hN0 HN2.out HN3.out HN4.out (dec_read hd)
          rw [List.length_drop] at h
          exfalso
          rw [← HZ.out, ← HN1E.out, ← HS.out] at h; omega
      subst ho
      have HB8 := Lib.hid (bthen HB7.out hB8)
      clear hSn hr3 hB8
      go_wp2_with fail
      go_ret2
      exact ⟨rfl, HB8.out⟩
  · obtain rfl : N = 0 := by omega
    have hNp : ¬ (0 : Int) < ((0 : Nat) : Int) := by omega
    have HD := Lib.hid (show ∀ l2, decZ bs = some l2 → b1 = false ∧ I1 = n ∧ l2 = [] from fun l2 hd => by
      have h := doc_zero HN1.out hd
      rw [← HZ.out] at h; exact h)
    have HRL := Lib.hid (show Row w3 none (([] : List Int).map (Value.int .i64)) from .inl rfl)
    have HKL := Lib.hid (show 0 = ([] : List Int).length from rfl)
    have HLI := Lib.hid (show ints [] from fun x hx => by cases hx)
    have HX9 := HX3
    have HB9 := HB3
    go_wp2_with fail
    refine (rencode_any none 0 0 ([] : List Int) _ HRL.out HKL.out (by omega) HLI.out).mono ?_
    rintro e w10 ⟨A1, c1, rfl, hr1, hc1, hn1, hB1⟩
    obtain ⟨E, hE⟩ : ∃ E, E = encZ ([] : List Int) := ⟨_, rfl⟩
    rw [← hE] at hr1 ⊢
    obtain ⟨q, hq⟩ : ∃ q, q = E.length := ⟨_, rfl⟩
    rw [← hq]
    have HE := Lib.hid hE
    have HQ := Lib.hid hq
    have HR1 := Lib.hid hr1
    have HX10 := Lib.hid (HX9.out.grown (below_grown hB1 none) (lt_of_cell HX9.out.1) (by simp))
    have HRL10 := Lib.hid (HRL.out.keep (Nat.le_refl _) hB1)
    have HB10 := Lib.hid (bthen HB9.out hB1)
    clear hE hq hr1 hn1 hB1 hc1
    obtain ⟨r, hr⟩ : ∃ r : Bool, r = true ↔ b1 = false ∧ I1 = n := ⟨decide (b1 = false ∧ I1 = n), by simp⟩
    have HRR := Lib.hid hr
    clear hr
    go_wp2_with fail
    refine (whole_any w.heap.size A n c I1 b1 _ HX10.out r HRR.out).mono ?_
    rintro e w11 ⟨rfl, hq11⟩
    have HR11 := Lib.hid (show Row w11 A1 (E.map (Value.int .u8)) by obtain ⟨m, rfl⟩ := hq11; exact HR1.out.keep (Nat.le_refl _) (below_drewN (Below.refl _ _) m))
    have HRL11 := Lib.hid (show Row w11 none (([] : List Int).map (Value.int .i64)) by obtain ⟨m, rfl⟩ := hq11; exact HRL10.out.keep (Nat.le_refl _) (below_drewN (Below.refl _ _) m))
    have HB11 := Lib.hid (show Below w.heap.size w w11 by obtain ⟨m, rfl⟩ := hq11; exact below_drewN HB10.out m)
    clear hq11
    cases r with
    | false =>
      obtain rfl : o = none := by
        rw [HO.out]
        cases hd : decZ bs with
        | none => rfl
        | some l2 =>
          have h := HD.out l2 hd
          exact absurd (HRR.out.2 ⟨h.1, h.2.1⟩) (by simp)
      go_wp2_with fail
      go_ret2
      exact ⟨rfl, HB11.out⟩
    | true =>
      obtain ⟨t, ht⟩ : ∃ s, s = strOfNums E := ⟨_, rfl⟩
      obtain ⟨t2, ht2⟩ : ∃ s, s = strOfNums bs := ⟨_, rfl⟩
      have v1 := conv_any (c := c1) HR11.out HQ.out
      have v2 := conv_any (c := c) (HA.out.keep (Nat.le_refl _) HB11.out) HZ.out
      rw [← ht] at v1
      rw [← ht2] at v2
      have HT := Lib.hid ht
      have HT2 := Lib.hid ht2
      by_cases hEq : encZ ([] : List Int) = bs
      · obtain rfl : o = some ([] : List Int) := by rw [HO.out]; exact dec_iff.2 ⟨⟨HLI.out, by rw [← HKL.out]; omega⟩, hEq⟩
        have htt : t2 = t := by rw [HT.out, HT2.out, HE.out, hEq]
        rw [htt] at v2
        clear ht ht2 hEq htt
        go_wp2_with fail
        go_ret2
        exact ⟨⟨none, 0, rfl, HRL11.out, Nat.le_refl _, fun _ => rfl⟩, HB11.out⟩
      · obtain rfl : o = none := by
          rw [HO.out]
          cases hd : decZ bs with
          | none => rfl
          | some l2 =>
            have h := HD.out l2 hd
            have h2 := (dec_iff.1 hd).2
            rw [h.2.2] at h2; exact absurd h2 hEq
        have hne : t ≠ t2 := by
          rw [HT.out, HT2.out, HE.out]
          intro h; exact hEq (strOf_inj enc_byte HBY.out h)
        have hs1 := str_ne hne
        have hs2 : (t.toList != t2.toList) = true := by simp [bne, hs1]
        clear ht ht2 hEq hne
        go_wp2_with fail
        go_ret2
        exact ⟨rfl, HB11.out⟩
end Go.Proofs.Ytedldajlioeioaa
