/- The document's Charge (12). -/
import Derived.Test.YtmmeekmiildliaaGreatDoorIN
namespace Go.Proofs.YtmmeekmiildliaaGreatDoor
open Go.RowKit
set_option linter.unusedSimpArgs false
set_option linter.unusedVariables false
set_option maxRecDepth 100000 in
set_option maxHeartbeats 16000000 in
theorem refcharge_any (A E SA EA F : Option Addr) (n c m d sn sc p q x y : Nat) (k t : Int) (L M D : List ByteArray) (X S : List Int) (w : World) (hS : Row w SA (intsV S)) (hE : Row w EA (texts D)) (hF : Row w F (intsV X)) (hn : n = L.length) (hm : m = M.length) (hsn : sn = S.length) (hp : p = D.length) (hx : x = X.length)
    (hD : ∀ s ∈ D, s.size ≤ 9223372036854775807) (hss : sn ≤ sc) (hsa : SA = none → sc = 0) (hp2 : p ≤ 1000000) (hx2 : x ≤ 1000000) (hsn2 : sn ≤ 1000000) (hm2 : m ≤ 1000000) (v : Int) (hv : CheckIs L M D X t v) :
    Calls Tryz.prog 12 #[.agg #[.slice A n c, .slice E m d], .agg #[.int .i64 k, .slice SA sn sc], .agg #[.int .i64 t, .slice EA p q, .slice F x y]] w (ChgPost w (chg k S X m v)) := by
  obtain ⟨W0, hW0⟩ : ∃ W0, W0 = (((w.alloc (.cells #[.slice A n c, .slice E m d] 24)).alloc (.cells #[.int .i64 k, .slice SA sn sc] 27)).alloc (.cells #[.int .i64 t, .slice EA p q, .slice F x y] 29)).alloc (.cells #[.int .i64 0, .slice none 0 0] 27) := ⟨_, rfl⟩
  have hb0 : Below w.heap.size w W0 := by rw [hW0]; exact bpush (bpush (bpush (bpush (Below.refl _ _) _) _) _) _
  have hz0 : W0.heap.size = w.heap.size + 4 := by rw [hW0]; simp
  have x1 : W0.cell? ⟨w.heap.size, 1, none⟩ = some (.slice E m d) := by rw [hW0]; exact cell_on (bpush (bpush (bpush (Below.refl _ _) _) _) _) (cell_made rfl rfl)
  have y0 : W0.cell? ⟨w.heap.size + 1, 0, none⟩ = some (.int .i64 k) := by rw [hW0]; exact cell_on (bpush (bpush (Below.refl _ _) _) _) (cell_made (by simp) rfl)
  have y1 : W0.cell? ⟨w.heap.size + 1, 1, none⟩ = some (.slice SA sn sc) := by rw [hW0]; exact cell_on (bpush (bpush (Below.refl _ _) _) _) (cell_made (by simp) rfl)
  have z2 : W0.cell? ⟨w.heap.size + 1 + 1, 2, none⟩ = some (.slice F x y) := by rw [hW0]; exact cell_on (bpush (Below.refl _ _) _) (cell_made (by simp) rfl)
  have hvb : Blk W0 (w.heap.size + 1 + 1 + 1) 27 #[.int .i64 0, .slice none 0 0] := by rw [hW0]; have := Blk.new (((w.alloc (.cells #[.slice A n c, .slice E m d] 24)).alloc (.cells #[.int .i64 k, .slice SA sn sc] 27)).alloc (.cells #[.int .i64 t, .slice EA p q, .slice F x y] 29)) 27 #[.int .i64 0, .slice none 0 0]; simpa using this
  have HCC := Lib.hid (refcheck_any A E EA F n c m d p q x y t L M D X W0 (hE.keep (Nat.le_refl _) hb0) (hF.keep (Nat.le_refl _) hb0) hn hm hp hx hD (by omega) (by omega) v hv)
  have HCL := Lib.hid (fun W (hW : Below w.heap.size w W) => cloneI_any SA sn sc (intsV S) W (hS.keep (Nat.le_refl _) hW) (by simp [intsV, hsn]) (one_intsV _) hss hsa (by omega))
  have HS := Lib.hid hS
  have HF := Lib.hid hF
  have HSN := Lib.hid hsn
  have HX := Lib.hid hx
  have HM := Lib.hid hm
  have HCK := Lib.hid hv
  have HB0 := Lib.hid hb0
  have HSZ := Lib.hid hz0
  have HW0 := Lib.hid hW0
  have HX2 := Lib.hid hx2
  obtain ⟨r, hr⟩ : ∃ r, r = chg k S X m v := ⟨_, rfl⟩
  rw [← hr]
  have HR := Lib.hid hr
  clear hS hE hF hn hm hsn hp hx hD hss hsa hp2 hx2 hv hW0 hr
  go_enter Tryz.func12, Tryz.ntmps12
  go_wp2_with fail
  rw [← HW0.out]
  clear HW0
  go_at_call 31
  refine HCC.out.mono ?_
  clear HCC
  rintro e W1 ⟨rfl, hb1⟩
  have HB1 := Lib.hid (bthen HB0.out hb1)
  have HSZ := Lib.hid (show w.heap.size + 4 ≤ W1.heap.size by have := hb1.size; have := HSZ.out; omega)
  have HVB := Lib.hid (hvb.grown (grown_none hb1) (by simp))
  have x1 := cell_on hb1 x1
  have y0 := cell_on hb1 y0
  have y1 := cell_on hb1 y1
  have z2 := cell_on hb1 z2
  have HV := Lib.hid (show W1.cell? ⟨w.heap.size + 1 + 1 + 1, 0, none⟩ = some (.int .i64 0) ∧ W1.cell? ⟨w.heap.size + 1 + 1 + 1, 1, none⟩ = some (.slice none 0 0) ∧ (∀ i, W1.frozen? ⟨w.heap.size + 1 + 1 + 1, i, none⟩ = false) from ⟨HVB.out.cell 0, HVB.out.cell 1, HVB.out.frozen⟩)
  have hsz := HSZ.out
  have HCEL := Lib.hid (fun W (hW : Below W1.heap.size W1 W) => show W.cell? ⟨w.heap.size + 1, 0, none⟩ = some (.int .i64 k) ∧ W.cell? ⟨w.heap.size + 1, 1, none⟩ = some (.slice SA sn sc) from ⟨cell_on hW y0, cell_on hW y1⟩)
  have HCEZ := Lib.hid (fun W (hW : Below W1.heap.size W1 W) => show W.cell? ⟨w.heap.size + 1 + 1, 2, none⟩ = some (.slice F x y) from cell_on hW z2)
  clear hb1 hb0 hvb hz0
  by_cases hv0 : v = 0
  case neg =>
    have z1 : (v != 0) = true := by rw [bne_iff_ne]; exact hv0
    have HR2 := Lib.hid (show r = ((0, []), v) by rw [HR.out, chg, if_neg hv0])
    clear hv0
    obtain ⟨v0, v1, vf⟩ := HV.out
    go_wp2_with fail
    (try simp only [Exit.inBlock, Exit.then])
    refine bodyPost_ret (v := .tuple #[.agg #[.int .i64 0, .slice none 0 0], .int .i64 v]) (by simp [results, Tryz.results12, go_sem, (two_set HVB.out (.int .i64 0) (.slice none 0 0)).1, (two_set HVB.out (.int .i64 0) (.slice none 0 0)).2]) rfl ?_
    exact ChgPost.none HR2.out (bset (bset HB1.out (o := 0) (by omega) _) (o := 1) (by omega) _)
  case pos =>
  subst hv0
  have HEV := Lib.hid (HCK.out.ok rfl)
  clear HCK
  by_cases hsm : sn = m
  case neg =>
    have z3 : ((sn : Int) != (m : Int)) = true := by rw [bne_iff_ne]; omega
    have HR2 := Lib.hid (show r = ((0, []), 182) by rw [HR.out, chg, if_pos rfl, if_pos (.inl (by rw [← HSN.out]; exact hsm))])
    clear hsm
    obtain ⟨v0, v1, vf⟩ := HV.out
    go_wp2_with fail
    (try simp only [Exit.inBlock, Exit.then])
    refine bodyPost_ret (v := .tuple #[.agg #[.int .i64 0, .slice none 0 0], .int .i64 182]) (by simp [results, Tryz.results12, go_sem, (two_set HVB.out (.int .i64 0) (.slice none 0 0)).1, (two_set HVB.out (.int .i64 0) (.slice none 0 0)).2]) rfl ?_
    exact ChgPost.none HR2.out (bset (bset HB1.out (o := 0) (by omega) _) (o := 1) (by omega) _)
  case pos =>
  have z3 : ((sn : Int) != (m : Int)) = false := by rw [bne_eq_false_iff_eq]; omega
  by_cases hk0 : k < 0
  case pos =>
    have HR2 := Lib.hid (show r = ((0, []), 182) by rw [HR.out, chg, if_pos rfl, if_pos (.inr (.inl hk0))])
    clear hsm
    obtain ⟨v0, v1, vf⟩ := HV.out
    go_wp2_with fail
    (try simp only [Exit.inBlock, Exit.then])
    refine bodyPost_ret (v := .tuple #[.agg #[.int .i64 0, .slice none 0 0], .int .i64 182]) (by simp [results, Tryz.results12, go_sem, (two_set HVB.out (.int .i64 0) (.slice none 0 0)).1, (two_set HVB.out (.int .i64 0) (.slice none 0 0)).2]) rfl ?_
    exact ChgPost.none HR2.out (bset (bset HB1.out (o := 0) (by omega) _) (o := 1) (by omega) _)
  case neg =>
  by_cases hk1 : 1048576 ≤ k
  case pos =>
    have HR2 := Lib.hid (show r = ((0, []), 182) by rw [HR.out, chg, if_pos rfl, if_pos (.inr (.inr hk1))])
    clear hsm
    obtain ⟨v0, v1, vf⟩ := HV.out
    go_wp2_with fail
    (try simp only [Exit.inBlock, Exit.then])
    refine bodyPost_ret (v := .tuple #[.agg #[.int .i64 0, .slice none 0 0], .int .i64 182]) (by simp [results, Tryz.results12, go_sem, (two_set HVB.out (.int .i64 0) (.slice none 0 0)).1, (two_set HVB.out (.int .i64 0) (.slice none 0 0)).2]) rfl ?_
    exact ChgPost.none HR2.out (bset (bset HB1.out (o := 0) (by omega) _) (o := 1) (by omega) _)
  case neg =>
  have HR2 := Lib.hid (show r = chgS k S X by rw [HR.out, chg, if_pos rfl, if_neg (by rw [← HSN.out]; intro h; rcases h with h | h | h; exact h hsm; exact hk0 h; exact hk1 h)])
  have HXS := Lib.hid (show X.length = S.length by rw [HEV.out.xl, ← HM.out, ← hsm, HSN.out])
  have hxs : x = sn := by rw [HX.out, HSN.out, HXS.out]
  have jw : IntKind.i64.wrap (k + 1) = k + 1 := IntWalk.i64_in _ (by omega)
  subst hsm
  subst hxs
  go_upto_region 7 with fail
  obtain ⟨W2, hW2⟩ : ∃ W2, W2 = W1.alloc (.cells #[.int .i64 (k + 1), .slice none 0 0] 27) := ⟨_, rfl⟩
  have HBX := Lib.hid (show Blk W2 W1.heap.size 27 #[.int .i64 (k + 1), .slice none 0 0] by rw [hW2]; exact Blk.new _ _ _)
  have HBW := Lib.hid (show Below W1.heap.size W1 W2 by rw [hW2]; exact bpush (Below.refl _ _) _)
  have HZW := Lib.hid (show W2.heap.size = W1.heap.size + 1 by rw [hW2]; simp)
  rw [← hW2]
  clear hW2 x1 y0 y1 z2 HV HCL
  go_wp2_with fail
  go_loopw [10, 11] (fun i _ wr => ∃ (k0 : Nat) (acc : List Int) (v : Value), i = .int .i64 (k0 : Int) ∧ k0 ≤ x ∧ Hid (AddSt S X k0 acc) ∧ Hid (wr.ownsRow (W1.heap.size + 1) 3 1 v k0 (intsV acc)) ∧ Hid (Blk wr W1.heap.size 27 #[.int .i64 (k + 1), v]) ∧ Hid (Below W1.heap.size W1 wr) ∧ Hid (W1.heap.size + 1 ≤ wr.heap.size)) (fun i _ _ => x - (intOf i).toNat)
  case atStart => exact ⟨0, [], .slice none 0 0, rfl, Nat.zero_le _, Lib.hid (AddSt.start S X), Lib.hid (World.ownsRow_nil _ _ _ _), HBX, HBW, Lib.hid (by rw [HZW.out]; exact Nat.le_refl _)⟩
  case round =>
    obtain ⟨k0, acc, v, rfl, hk, HST, HOV, HBK, HBR, HZR⟩ := hrel
    have HVB := Lib.hid (HVB.out.grown (grown_none HBR.out) (by simp))
    have HV := Lib.hid (show wr.cell? ⟨w.heap.size + 1 + 1 + 1, 0, none⟩ = some (.int .i64 0) ∧ wr.cell? ⟨w.heap.size + 1 + 1 + 1, 1, none⟩ = some (.slice none 0 0) ∧ (∀ i, wr.frozen? ⟨w.heap.size + 1 + 1 + 1, i, none⟩ = false) from ⟨HVB.out.cell 0, HVB.out.cell 1, HVB.out.frozen⟩)
    have HBB := Lib.hid (bthen HB1.out HBR.out)
    obtain ⟨e5, e6⟩ := HCEL.out wr HBR.out
    by_cases hlt : k0 < x
    case neg =>
      have hki : ¬ ((k0 : Int) < (x : Int)) := by omega
      have hkx : k0 = S.length := by have := HSN.out; omega
      have HR3 := Lib.hid (show r = ((k + 1, acc), 0) by rw [HR2.out, chgS, HST.out.fin hkx])
      have hxa : k0 = acc.length := HST.out.len.symm
      have HXA := Lib.hid hxa
      obtain ⟨D1, k1, rfl⟩ := own_is HOV.out
      clear hlt hkx hxa HST
      have b0 := HBK.out.cell 0
      have b1 := HBK.out.cell 1
      simp at b0 b1
      obtain ⟨v0, v1, vf⟩ := HV.out
      go_wp2_with fail
      (try simp only [Exit.inBlock, Exit.then])
      refine bodyPost_ret (v := .tuple #[.agg #[.int .i64 (k + 1), .slice D1 k0 k1], .int .i64 0]) (by simp [results, Tryz.results12, go_sem, (two_set HVB.out (.int .i64 (k + 1)) (.slice D1 k0 k1)).1, (two_set HVB.out (.int .i64 (k + 1)) (.slice D1 k0 k1)).2]) rfl ?_
      have hnb := HOV.out.not_blk HVB.out (by decide)
      have hof := own_set' (u := .slice D1 k0 k1) (o := 1) (own_set' (u := .int .i64 (k + 1)) (o := 0) HOV.out hnb) hnb
      obtain ⟨A', c', e', hr', hc', ha'⟩ := own_slice hof
      cases e'
      refine ⟨D1, k0, k1, by rw [HR3.out], by rw [HR3.out]; exact HXA.out, hc', ha', by rw [HR3.out]; exact hr', bset (bset HBB.out (o := 0) (by omega) _) (o := 1) (by omega) _⟩
    case pos =>
    have hki : (k0 : Int) < (x : Int) := by omega
    have hk00 : (0 : Int) ≤ (k0 : Int) := by omega
    have hkX : k0 < X.length := by have := HX.out; omega
    have hkS : k0 < S.length := by have := HSN.out; omega
    obtain ⟨bf1, of1, rfl, p0⟩ := (HF.out.keep (Nat.le_refl _) HBB.out).cell hkX
    obtain ⟨bs1, os1, hSA, p1⟩ := (HS.out.keep (Nat.le_refl _) HB1.out).cell hkS
    subst hSA
    obtain ⟨a0, ha⟩ : ∃ t, t = X[k0] := ⟨_, rfl⟩
    obtain ⟨s0, hs⟩ : ∃ t, t = S[k0] := ⟨_, rfl⟩
    rw [← ha] at p0
    rw [← hs] at p1
    have HP1 := Lib.hid (fun W (hW : Below W1.heap.size W1 W) => show W.cell? ⟨bs1, os1 + k0, none⟩ = some (.int .i64 s0) from cell_on hW p1)
    have p1 := HP1.out wr HBR.out
    obtain ⟨z0, hz⟩ : ∃ z, z = szI a0 := ⟨_, rfl⟩
    have hgr : ¬ greatZ a0 := by rw [ha]; exact HEV.out.xv _ (List.getElem_mem _)
    have HSI := Lib.hid (fun W => refsize_any a0 hgr W)
    rw [← hz] at HSI
    have hbd := szI_bd hgr
    rw [← hz] at hbd
    have HCI := Lib.hid (show (S[k0] < 0 ∨ 4611686018427387904 - szI X[k0] < S[k0]) ↔ (s0 < 0 ∨ 4611686018427387904 - z0 < s0) by rw [hs, hz, ha])
    have HZ := Lib.hid (show S[k0] + szI X[k0] = s0 + z0 by rw [hs, hz, ha])
    have e4 := HCEZ.out wr HBR.out
    have jw2 : IntKind.i64.wrap (4611686018427387904 - z0) = 4611686018427387904 - z0 := IntWalk.i64_in _ (by omega)
    have HLT := Lib.hid hlt
    clear ha hs hz hgr hlt
    by_cases hc1 : s0 < 0
    case pos =>
      have HR3 := Lib.hid (show r = ((0, []), 182) by rw [HR2.out, chgS, HST.out.bad hkS hkX (HCI.out.2 (.inl hc1))])
      obtain ⟨v0, v1, vf⟩ := HV.out
      go_wp2_with (go_at_call 32; refine (HSI.out _).mono ?_; rintro e wc ⟨rfl, rfl⟩)
      (try simp only [Exit.inBlock, Exit.then])
      refine bodyPost_ret (v := .tuple #[.agg #[.int .i64 0, .slice none 0 0], .int .i64 182]) (by simp [results, Tryz.results12, go_sem, (two_set HVB.out (.int .i64 0) (.slice none 0 0)).1, (two_set HVB.out (.int .i64 0) (.slice none 0 0)).2]) rfl ?_
      exact ChgPost.none HR3.out (bset (bset HBB.out (o := 0) (by omega) _) (o := 1) (by omega) _)
    case neg =>
    by_cases hc2 : 4611686018427387904 - z0 < s0
    case pos =>
      have HR3 := Lib.hid (show r = ((0, []), 182) by rw [HR2.out, chgS, HST.out.bad hkS hkX (HCI.out.2 (.inr hc2))])
      obtain ⟨v0, v1, vf⟩ := HV.out
      go_wp2_with (go_at_call 32; refine (HSI.out _).mono ?_; rintro e wc ⟨rfl, rfl⟩)
      (try simp only [Exit.inBlock, Exit.then])
      refine bodyPost_ret (v := .tuple #[.agg #[.int .i64 0, .slice none 0 0], .int .i64 182]) (by simp [results, Tryz.results12, go_sem, (two_set HVB.out (.int .i64 0) (.slice none 0 0)).1, (two_set HVB.out (.int .i64 0) (.slice none 0 0)).2]) rfl ?_
      exact ChgPost.none HR3.out (bset (bset HBB.out (o := 0) (by omega) _) (o := 1) (by omega) _)
    case neg =>
    have HST2 := Lib.hid (HST.out.step hkS hkX (fun h => by rcases HCI.out.1 h with h1 | h1; exact hc1 h1; exact hc2 h1))
    rw [HZ.out] at HST2
    have b0 := HBK.out.cell 0
    have b1 := HBK.out.cell 1
    simp at b0 b1
    have jw3 : IntKind.i64.wrap (s0 + z0) = s0 + z0 := IntWalk.i64_in _ (by omega)
    clear HST HZ HCI
    obtain ⟨i0, hi0, hz0, hz1, hz2⟩ := info_parts infoI
    go_upto_region 13 with (go_at_call 32; refine (HSI.out _).mono ?_; rintro e wc ⟨rfl, hw⟩; obtain rfl := hw.symm)
    refine wp_region_held_drew (S := fun W => Below W1.heap.size W1 W) (by kernel_rfl) (below_drewN HBR.out 1) ?_
    intro hHeld
    refine take_want (i := 0) (v := ?v0k4) rfl (by kernel_rfl) (by kernel_rfl) (by kernel_rfl) (fun _ _ _ h => h) (by rfl) ?y0k4 (by assumption) ?r0k4
    case y0k4 => (intro w hSw; go_simp; all_goals with_reducible rfl)
    (try simp only [Act.put, List.setIfInBounds_toArray, List.set_cons_zero, List.set_cons_succ])
    refine take_want (i := 2) (v := ?v2k4) rfl (by kernel_rfl) (by kernel_rfl) (by kernel_rfl) (fun _ _ _ h => h) (by rfl) ?y2k4 (by assumption) ?r2k4
    case y2k4 => (intro w hSw; go_simp; all_goals with_reducible rfl)
    (try simp only [Act.put, List.setIfInBounds_toArray, List.set_cons_zero, List.set_cons_succ])
    refine take_want (i := 3) (v := ?v3k4) rfl (by kernel_rfl) (by kernel_rfl) (by kernel_rfl) (fun _ _ _ h => h) (by rfl) ?y3k4 (by assumption) ?r3k4
    case y3k4 => (intro w hSw; obtain ⟨e5, e6⟩ := HCEL.out w hSw; go_simp; all_goals with_reducible rfl)
    (try simp only [Act.put, List.setIfInBounds_toArray, List.set_cons_zero, List.set_cons_succ])
    refine take_want (i := 4) (v := ?v4k4) rfl (by kernel_rfl) (by kernel_rfl) (by kernel_rfl) (fun _ _ _ h => h) (by rfl) ?y4k4 (by assumption) ?r4k4
    case y4k4 => (intro w hSw; go_simp; all_goals with_reducible rfl)
    (try simp only [Act.put, List.setIfInBounds_toArray, List.set_cons_zero, List.set_cons_succ])
    refine take_want (i := 5) (v := ?v5k4) rfl (by kernel_rfl) (by kernel_rfl) (by kernel_rfl) (fun _ _ _ h => h) (by rfl) ?y5k4 (by assumption) ?r5k4
    case y5k4 => (intro w hSw; go_simp; all_goals with_reducible rfl)
    (try simp only [Act.put, List.setIfInBounds_toArray, List.set_cons_zero, List.set_cons_succ])
    refine take_want (i := 6) (v := ?v6k4) rfl (by kernel_rfl) (by kernel_rfl) (by kernel_rfl) (fun _ _ _ h => h) (by rfl) ?y6k4 (by assumption) ?r6k4
    case y6k4 => (intro w hSw; have p1 := HP1.out w hSw; go_simp; all_goals with_reducible rfl)
    (try simp only [Act.put, List.setIfInBounds_toArray, List.set_cons_zero, List.set_cons_succ])
    refine take_want (i := 7) (v := ?v7k4) rfl (by kernel_rfl) (by kernel_rfl) (by kernel_rfl) (fun _ _ _ h => h) (by rfl) ?y7k4 (by assumption) ?r7k4
    case y7k4 => (intro w hSw; go_simp; all_goals with_reducible rfl)
    (try simp only [Act.put, List.setIfInBounds_toArray, List.set_cons_zero, List.set_cons_succ])
    refine take_want (i := 8) (v := ?v8k4) rfl (by kernel_rfl) (by kernel_rfl) (by kernel_rfl) (fun _ _ _ h => h) (by rfl) ?y8k4 (by assumption) ?r8k4
    case y8k4 => (intro w hSw; go_simp; all_goals with_reducible rfl)
    (try simp only [Act.put, List.setIfInBounds_toArray, List.set_cons_zero, List.set_cons_succ])
    refine wpAnyH_ready (rs := [1, 9]) (by kernel_rfl) (by simp) ?_
    refine AllReadyH.cons rfl (fun K hK => ?_) (AllReadyH.cons rfl (fun K hK => ?_) AllReadyH.nil)
    · go_simp
      refine hK.out _ _ (hHeld) (fun hHeld => ?_)
      clear hK K
      (try simp only [Act.put, List.setIfInBounds_toArray, List.set_cons_zero, List.set_cons_succ])
      refine wpAnyH_ready (rs := [9]) (by kernel_rfl) (by simp) ?_
      refine AllReadyH.cons rfl (fun K hK => ?_) AllReadyH.nil
      go_simp
      have hk := bpush hHeld (.cells #[.int .i64 (s0 + z0)] 3)
      refine hK.out _ _ (by first | exact hk | (simp at hk ⊢; exact hk)) (fun hHeld => ?_)
      clear hK K
      (try simp only [Act.put, List.setIfInBounds_toArray, List.set_cons_zero, List.set_cons_succ])
      obtain ⟨V3, hV3⟩ : ∃ V3, V3 = (wr.alloc (.cells #[.int .i64 (s0 + z0)] 3)).drew := ⟨_, rfl⟩
      have hb3 : Below wr.heap.size wr V3 := by rw [hV3]; exact below_drewN (bpush (Below.refl _ _) _) 1
      have HNW := Lib.hid (show Row V3 (some ⟨wr.heap.size, 0, none⟩) [.int .i64 (s0 + z0)] by rw [hV3]; exact (show Row (wr.alloc (.cells #[.int .i64 (s0 + z0)] 3)) (some ⟨wr.heap.size, 0, none⟩) [.int .i64 (s0 + z0)] from Row.made rfl rfl).keep (Nat.le_refl _) (below_drewN (Below.refl _ _) 1))
      have HO3 := Lib.hid (own_below HOV.out hb3)
      have HK3 := Lib.hid (HBK.out.grown (grown_none hb3) (by simp))
      have HZ3 := Lib.hid (show W1.heap.size + 1 ≤ V3.heap.size from Nat.le_trans HZR.out hb3.size)
      have b1 := HK3.out.cell 1
      simp at b1
      have hHeld : Below W1.heap.size W1 V3 := by have h := hHeld; rw [hV3]; first | exact h | exact below_drewN h 1 | (simp at h; first | exact h | exact below_drewN h 1)
      first | rw [← hV3] | (simp only [World.drew_alloc]; rw [← hV3]) | skip
      clear hV3 hb3
      refine wpAnyH_ready (rs := [10]) (by kernel_rfl) (by simp) ?_
      refine AllReadyH.cons rfl (fun K hK => ?_) AllReadyH.nil
      refine step_append_at rfl _ _ 25 rfl (W1.heap.size + 1) 3 i0 (.int .i64 0) 1 8 Tryz.underlying25 hi0 hz0 hz1 hz2 rfl (by decide) v k0 (intsV acc) (by first | rfl | (simp; done)) HO3.out ⟨wr.heap.size, 0, none⟩ 1 1 [.int .i64 (s0 + z0)] (by first | rfl | (simp; done)) rfl HNW.out.at' (by intro u hu; simp at hu; subst hu; rfl) (by unfold maxLen; omega) (by omega) HZ3.out ?_
      intro v5 w5 ho5 hg5 hd5
      obtain ⟨A5, c5, rfl⟩ := own_is ho5
      have hgK : v.ownBlock ≠ some W1.heap.size := own_apart HO3.out (by omega)
      have HK5 := Lib.hid (HK3.out.grown hg5 hgK)
      have HB5 := Lib.hid (show Below W1.heap.size W1 w5 from hHeld.trans (grown_below (own_less HO3.out (by omega)) hg5 hHeld.size))
      have HO5 := Lib.hid (show w5.ownsRow (W1.heap.size + 1) 3 1 (.slice A5 (k0 + 1) c5) (k0 + 1) (intsV (acc ++ [s0 + z0])) by rw [show intsV (acc ++ [s0 + z0]) = intsV acc ++ [.int .i64 (s0 + z0)] by simp]; exact ho5)
      have HZ5 := Lib.hid (show W1.heap.size + 1 ≤ w5.heap.size from Nat.le_trans HZ3.out hg5.size)
      refine hK.out _ _ HB5.out (fun hHeld => ?_)
      clear hK K
      (try simp only [Act.put, List.setIfInBounds_toArray, List.set_cons_zero, List.set_cons_succ])
      clear ho5 hg5 hd5 hgK HO3 HK3 HNW HZ3 HOV HBK
      refine take_want (i := 11) (v := ?v11k5) rfl (by kernel_rfl) (by kernel_rfl) (by kernel_rfl) (fun _ _ _ h => h) (by rfl) ?y11k5 (by assumption) ?r11k5
      case y11k5 => (intro w hSw; go_simp; all_goals with_reducible rfl)
      (try simp only [Act.put, List.setIfInBounds_toArray, List.set_cons_zero, List.set_cons_succ])
      have b1 := HK5.out.cell 1
      have bf1 := HK5.out.frozen 1
      simp at b1
      refine wpAnyH_ready (rs := [12]) (by kernel_rfl) (by simp) ?_
      refine AllReadyH.cons rfl (fun K hK => ?_) AllReadyH.nil
      go_simp
      have hBs := bset HB5.out (b := W1.heap.size) (o := 1) (Nat.le_refl _) (.slice A5 (k0 + 1) c5)
      refine hK.out _ _ (by first | exact hBs | (simp at hBs ⊢; exact hBs)) (fun hHeld => ?_)
      clear hK K
      (try simp only [Act.put, List.setIfInBounds_toArray, List.set_cons_zero, List.set_cons_succ])
      refine wpAnyH_done (by kernel_rfl) ?_ _
      have HK6 := Lib.hid (show Blk (w5.setCell ⟨W1.heap.size, 1, none⟩ (.slice A5 (k0 + 1) c5)) W1.heap.size 27 #[.int .i64 (k + 1), (.slice A5 (k0 + 1) c5)] by have h := HK5.out.set_ 1 (.slice A5 (k0 + 1) c5); simp at h; exact h)
      have HO6 := Lib.hid (own_set' (o := 1) (u := (.slice A5 (k0 + 1) c5)) HO5.out (HO5.out.not_blk HK5.out (by decide)))
      have HB6 := Lib.hid hBs
      have HZ6 := Lib.hid (show W1.heap.size + 1 ≤ (w5.setCell ⟨W1.heap.size, 1, none⟩ (.slice A5 (k0 + 1) c5)).heap.size by have := HZ5.out; simpa using this)
      clear hBs hHeld HK5 HO5 HB5 HZ5 b1 bf1
      go_wp2_with fail
      go_roundw
      case rel => exact ⟨k0 + 1, acc ++ [s0 + z0], (.slice A5 (k0 + 1) c5), by go_num, by have := HLT.out; omega, HST2, HO6, HK6, HB6, HZ6⟩
      case measure => have := HLT.out; simp [intOf]; omega
    · go_simp
      have hk := bpush hHeld (.cells #[.int .i64 (s0 + z0)] 3)
      refine hK.out _ _ (by first | exact hk | (simp at hk ⊢; exact hk)) (fun hHeld => ?_)
      clear hK K
      (try simp only [Act.put, List.setIfInBounds_toArray, List.set_cons_zero, List.set_cons_succ])
      obtain ⟨V3, hV3⟩ : ∃ V3, V3 = (wr.alloc (.cells #[.int .i64 (s0 + z0)] 3)).drew := ⟨_, rfl⟩
      have hb3 : Below wr.heap.size wr V3 := by rw [hV3]; exact below_drewN (bpush (Below.refl _ _) _) 1
      have HNW := Lib.hid (show Row V3 (some ⟨wr.heap.size, 0, none⟩) [.int .i64 (s0 + z0)] by rw [hV3]; exact (show Row (wr.alloc (.cells #[.int .i64 (s0 + z0)] 3)) (some ⟨wr.heap.size, 0, none⟩) [.int .i64 (s0 + z0)] from Row.made rfl rfl).keep (Nat.le_refl _) (below_drewN (Below.refl _ _) 1))
      have HO3 := Lib.hid (own_below HOV.out hb3)
      have HK3 := Lib.hid (HBK.out.grown (grown_none hb3) (by simp))
      have HZ3 := Lib.hid (show W1.heap.size + 1 ≤ V3.heap.size from Nat.le_trans HZR.out hb3.size)
      have b1 := HK3.out.cell 1
      simp at b1
      have hHeld : Below W1.heap.size W1 V3 := by have h := hHeld; rw [hV3]; first | exact h | exact below_drewN h 1 | (simp at h; first | exact h | exact below_drewN h 1)
      first | rw [← hV3] | (simp only [World.drew_alloc]; rw [← hV3]) | skip
      clear hV3 hb3
      refine wpAnyH_ready (rs := [1]) (by kernel_rfl) (by simp) ?_
      refine AllReadyH.cons rfl (fun K hK => ?_) AllReadyH.nil
      go_simp
      refine hK.out _ _ (hHeld) (fun hHeld => ?_)
      clear hK K
      (try simp only [Act.put, List.setIfInBounds_toArray, List.set_cons_zero, List.set_cons_succ])
      refine wpAnyH_ready (rs := [10]) (by kernel_rfl) (by simp) ?_
      refine AllReadyH.cons rfl (fun K hK => ?_) AllReadyH.nil
      refine step_append_at rfl _ _ 25 rfl (W1.heap.size + 1) 3 i0 (.int .i64 0) 1 8 Tryz.underlying25 hi0 hz0 hz1 hz2 rfl (by decide) v k0 (intsV acc) (by first | rfl | (simp; done)) HO3.out ⟨wr.heap.size, 0, none⟩ 1 1 [.int .i64 (s0 + z0)] (by first | rfl | (simp; done)) rfl HNW.out.at' (by intro u hu; simp at hu; subst hu; rfl) (by unfold maxLen; omega) (by omega) HZ3.out ?_
      intro v5 w5 ho5 hg5 hd5
      obtain ⟨A5, c5, rfl⟩ := own_is ho5
      have hgK : v.ownBlock ≠ some W1.heap.size := own_apart HO3.out (by omega)
      have HK5 := Lib.hid (HK3.out.grown hg5 hgK)
      have HB5 := Lib.hid (show Below W1.heap.size W1 w5 from hHeld.trans (grown_below (own_less HO3.out (by omega)) hg5 hHeld.size))
      have HO5 := Lib.hid (show w5.ownsRow (W1.heap.size + 1) 3 1 (.slice A5 (k0 + 1) c5) (k0 + 1) (intsV (acc ++ [s0 + z0])) by rw [show intsV (acc ++ [s0 + z0]) = intsV acc ++ [.int .i64 (s0 + z0)] by simp]; exact ho5)
      have HZ5 := Lib.hid (show W1.heap.size + 1 ≤ w5.heap.size from Nat.le_trans HZ3.out hg5.size)
      refine hK.out _ _ HB5.out (fun hHeld => ?_)
      clear hK K
      (try simp only [Act.put, List.setIfInBounds_toArray, List.set_cons_zero, List.set_cons_succ])
      clear ho5 hg5 hd5 hgK HO3 HK3 HNW HZ3 HOV HBK
      refine take_want (i := 11) (v := ?v11k6) rfl (by kernel_rfl) (by kernel_rfl) (by kernel_rfl) (fun _ _ _ h => h) (by rfl) ?y11k6 (by assumption) ?r11k6
      case y11k6 => (intro w hSw; go_simp; all_goals with_reducible rfl)
      (try simp only [Act.put, List.setIfInBounds_toArray, List.set_cons_zero, List.set_cons_succ])
      have b1 := HK5.out.cell 1
      have bf1 := HK5.out.frozen 1
      simp at b1
      refine wpAnyH_ready (rs := [12]) (by kernel_rfl) (by simp) ?_
      refine AllReadyH.cons rfl (fun K hK => ?_) AllReadyH.nil
      go_simp
      have hBs := bset HB5.out (b := W1.heap.size) (o := 1) (Nat.le_refl _) (.slice A5 (k0 + 1) c5)
      refine hK.out _ _ (by first | exact hBs | (simp at hBs ⊢; exact hBs)) (fun hHeld => ?_)
      clear hK K
      (try simp only [Act.put, List.setIfInBounds_toArray, List.set_cons_zero, List.set_cons_succ])
      refine wpAnyH_done (by kernel_rfl) ?_ _
      have HK6 := Lib.hid (show Blk (w5.setCell ⟨W1.heap.size, 1, none⟩ (.slice A5 (k0 + 1) c5)) W1.heap.size 27 #[.int .i64 (k + 1), (.slice A5 (k0 + 1) c5)] by have h := HK5.out.set_ 1 (.slice A5 (k0 + 1) c5); simp at h; exact h)
      have HO6 := Lib.hid (own_set' (o := 1) (u := (.slice A5 (k0 + 1) c5)) HO5.out (HO5.out.not_blk HK5.out (by decide)))
      have HB6 := Lib.hid hBs
      have HZ6 := Lib.hid (show W1.heap.size + 1 ≤ (w5.setCell ⟨W1.heap.size, 1, none⟩ (.slice A5 (k0 + 1) c5)).heap.size by have := HZ5.out; simpa using this)
      clear hBs hHeld HK5 HO5 HB5 HZ5 b1 bf1
      go_wp2_with fail
      go_roundw
      case rel => exact ⟨k0 + 1, acc ++ [s0 + z0], (.slice A5 (k0 + 1) c5), by go_num, by have := HLT.out; omega, HST2, HO6, HK6, HB6, HZ6⟩
      case measure => have := HLT.out; simp [intOf]; omega
end Go.Proofs.YtmmeekmiildliaaGreatDoor
