/- The live question. -/
import Derived.Test.YtlfhjjlgmhkepaaRL
namespace Go.Proofs.Ytlfhjjlgmhkepaa
open Go.RowKit
set_option linter.unusedSimpArgs false
set_option linter.unusedVariables false
theorem one_any' (w : World) : Calls Try.prog 28 #[] w fun e w' => ∃ A B, e = .returned (.agg #[.slice A 1 1, .slice B 1 1]) ∧ Below w.heap.size w w' := by
  go_enter Try.func28, Try.ntmps28
  go_wp2_with fail
  exact bodyPost_ret (v := .agg #[.slice (some ⟨w.heap.size + 1, 0, none⟩) 1 1, .slice (some ⟨w.heap.size + 1 + 1, 0, none⟩) 1 1]) (by simp [results, Try.results28, go_sem]) rfl
    ⟨_, _, rfl, by repeat (first | exact Below.refl _ _ | refine bset ?_ (by simp) _ | refine bpush ?_ _)⟩
def rowX (s : ByteArray) (n : Int) : RV := ⟨4, [s], 1, [(n, n, n)]⟩
theorem of_one (A B : Option Addr) (s : ByteArray) (n : Int) (a wa : World) (hwa : wa = (a.alloc (.cells #[.string s] 9)).alloc (.cells #[.int .i64 n] 3)) (hs : s.size ≤ 24 ∧ ∀ i, (h : i < s.size) → wrongV (s[i]'h).toNat = false) (hn : -4611686018427387904 ≤ n ∧ n ≤ 4611686018427387904) :
    Calls Try.prog 11 #[.agg #[.slice A 1 1, .slice B 1 1], .agg #[.int .i64 4, .slice (some ⟨a.heap.size, 0, none⟩) 1 1, .slice (some ⟨a.heap.size + 1, 0, none⟩) 1 1]] wa (JoinPost wa (rowX s n, 0)) := by
  have h := of_any A B (some ⟨a.heap.size, 0, none⟩) (some ⟨a.heap.size + 1, 0, none⟩) 1 1 1 1 1 1 1 1 4 [⟨#[97]⟩] [⟨#[109]⟩] [s] [n] wa
    (by rw [hwa]; exact (Row.made rfl rfl : Row (a.alloc (.cells #[.string s] 9)) (some ⟨a.heap.size, 0, none⟩) (texts [s])).keep (Nat.le_refl _) (bpush (Below.refl _ _) _))
    (by rw [hwa]; exact Row.made (by simp) rfl) rfl rfl rfl rfl (by intro u hu; rw [List.mem_singleton.1 hu]; omega) (Nat.le_refl _) (by intro h; cases h) (by omega) (by omega) 0
    (.inr (.inr ⟨rfl, rfl, .inr (.inr ⟨by intro u hu; rw [List.mem_singleton.1 hu]; exact hs, by intro u hu; rw [List.mem_singleton.1 hu]; unfold greatZ; omega, .inr (.inr ⟨by omega, by omega, rfl⟩)⟩)⟩))
  have e : ofR 4 [s] [n] 0 = (rowX s n, 0) := by
    have hf : fit1 n = true := fit1_iff.2 hn
    unfold ofR onesG rowX
    rw [if_pos rfl, List.map_cons, List.map_nil, oneA_yes hf]; rfl
  rwa [e] at h
theorem folds_three : foldL [rowX ⟨#[]⟩ 0, rowX ⟨#[118]⟩ 7, rowX ⟨#[118]⟩ (-2)] = ([rowX ⟨#[]⟩ 0, ⟨4, [⟨#[118]⟩], 2, [(5, -2, 7)]⟩], 0) := by kernel_rfl
theorem sorts_three : SortsTo [rowX ⟨#[118]⟩ 7, rowX ⟨#[118]⟩ (-2), rowX ⟨#[]⟩ 0] [rowX ⟨#[]⟩ 0, rowX ⟨#[118]⟩ 7, rowX ⟨#[118]⟩ (-2)] := by
  have h1 : cmpV (rowX ⟨#[]⟩ 0) (rowX ⟨#[118]⟩ 7) = -1 := by decide +kernel
  have h2 : ∀ m n, cmpV (rowX ⟨#[118]⟩ m) (rowX ⟨#[118]⟩ n) = 0 := fun m n => cmpV_zero.2 ⟨rfl, rfl⟩
  have h3 : ∀ m, cmpV (rowX ⟨#[]⟩ 0) (rowX ⟨#[118]⟩ m) = -1 := fun m => (cmpV_right (h2 m 7) _).trans h1
  constructor
  · refine List.Pairwise.cons ?_ (List.Pairwise.cons ?_ (List.Pairwise.cons ?_ List.Pairwise.nil))
    · intro b hb
      simp only [List.mem_cons, List.not_mem_nil, or_false] at hb
      rcases hb with rfl | rfl <;> rw [h3] <;> decide
    · intro b hb
      rw [List.mem_singleton.1 hb, h2]; exact Int.le_refl _
    · intro b hb; cases hb
  · intro k
    simp only [List.filter_cons, List.filter_nil]
    by_cases e1 : keyV k (rowX ⟨#[]⟩ 0) = true
    · have e2 : ∀ m, keyV k (rowX ⟨#[118]⟩ m) = false := fun m => by
        rw [Bool.eq_false_iff, ne_eq, keyV_true, cmpV_left (keyV_true.1 e1), h3]; decide
      simp [e1, e2]
    · simp [e1]
set_option maxRecDepth 100000 in
set_option maxHeartbeats 8000000 in
theorem alive_any (w : World) : Calls Try.prog 10 #[] w fun e w' => e = .returned (.bool true) ∧ Below w.heap.size w w' := by
  go_enter Try.func10, Try.ntmps10
  go_wp2_with fail
  go_at_call 28
  refine (one_any' _).mono ?_
  rintro e a1 ⟨A1, B1, rfl, ha1⟩
  have HA1 := Lib.hid ha1
  obtain ⟨wa1, hwa1⟩ : ∃ wa, wa = (a1.alloc (.cells #[.string ⟨#[118]⟩] 9)).alloc (.cells #[.int .i64 (7)] 3) := ⟨_, rfl⟩
  have HC1 := Lib.hid (of_one A1 B1 ⟨#[118]⟩ (7) a1 wa1 hwa1 (by decide +kernel) (by decide +kernel))
  have hba1 : Below a1.heap.size a1 wa1 := by rw [hwa1]; exact bpush (bpush (Below.refl _ _) _) _
  have HWA1 := Lib.hid hwa1
  have HBA1 := Lib.hid hba1
  clear hba1 hwa1 ha1
  go_wp2_with fail
  rw [← HWA1.out]
  clear HWA1
  go_at_call 11
  refine HC1.out.mono ?_
  clear HC1
  rintro e b1 ⟨⟨⟨D1, n1, c1, G1, gn1, gc1⟩, ⟨t, L, q, X⟩⟩, rfl, hz, ho, hb⟩
  obtain ⟨rfl, rfl, rfl, rfl⟩ := RV.mk.inj (show (⟨t, L, q, X⟩ : RV) = ⟨4, [⟨#[118]⟩], 1, [(7, 7, 7)]⟩ from hz)
  obtain ⟨d1, hd1⟩ : ∃ d, d = b1.alloc (.cells #[.int .i64 4, .slice D1 n1 c1, .int .i64 1, .slice G1 gn1 gc1] 27) := ⟨_, rfl⟩
  have hbd : Below b1.heap.size b1 d1 := by rw [hd1]; exact bpush (Below.refl _ _) _
  have HX1 := Lib.hid (show Bx4 d1 b1.heap.size (.int .i64 4) (.slice D1 n1 c1) (.int .i64 1) (.slice G1 gn1 gc1) by rw [hd1]; exact Bx4.made)
  have HO1 := Lib.hid (show Good d1 (⟨D1, n1, c1, G1, gn1, gc1⟩, ⟨4, [⟨#[118]⟩], 1, [(7, 7, 7)]⟩) from ho.good.keep hbd)
  have hk1 := bthen (bthen (bthen HA1.out HBA1.out) hb) hbd
  have HW1 := Lib.hid (bthen (Below.refl _ _) hk1)
  have HD1 := Lib.hid hd1
  clear hz ho hb hbd hk1 hd1 HA1 HBA1
  simp only [encR_eq]
  go_wp2_with fail
  rw [← HD1.out]
  clear HD1
  go_at_call 28
  refine (one_any' _).mono ?_
  rintro e a2 ⟨A2, B2, rfl, ha2⟩
  have HA2 := Lib.hid ha2
  obtain ⟨wa2, hwa2⟩ : ∃ wa, wa = (a2.alloc (.cells #[.string ⟨#[118]⟩] 9)).alloc (.cells #[.int .i64 (-2)] 3) := ⟨_, rfl⟩
  have HC2 := Lib.hid (of_one A2 B2 ⟨#[118]⟩ (-2) a2 wa2 hwa2 (by decide +kernel) (by decide +kernel))
  have hba2 : Below a2.heap.size a2 wa2 := by rw [hwa2]; exact bpush (bpush (Below.refl _ _) _) _
  have HWA2 := Lib.hid hwa2
  have HBA2 := Lib.hid hba2
  clear hba2 hwa2 ha2
  go_wp2_with fail
  rw [← HWA2.out]
  clear HWA2
  go_at_call 11
  refine HC2.out.mono ?_
  clear HC2
  rintro e b2 ⟨⟨⟨D2, n2, c2, G2, gn2, gc2⟩, ⟨t, L, q, X⟩⟩, rfl, hz, ho, hb⟩
  obtain ⟨rfl, rfl, rfl, rfl⟩ := RV.mk.inj (show (⟨t, L, q, X⟩ : RV) = ⟨4, [⟨#[118]⟩], 1, [(-2, -2, -2)]⟩ from hz)
  obtain ⟨d2, hd2⟩ : ∃ d, d = b2.alloc (.cells #[.int .i64 4, .slice D2 n2 c2, .int .i64 1, .slice G2 gn2 gc2] 27) := ⟨_, rfl⟩
  have hbd : Below b2.heap.size b2 d2 := by rw [hd2]; exact bpush (Below.refl _ _) _
  have HX2 := Lib.hid (show Bx4 d2 b2.heap.size (.int .i64 4) (.slice D2 n2 c2) (.int .i64 1) (.slice G2 gn2 gc2) by rw [hd2]; exact Bx4.made)
  have HO2 := Lib.hid (show Good d2 (⟨D2, n2, c2, G2, gn2, gc2⟩, ⟨4, [⟨#[118]⟩], 1, [(-2, -2, -2)]⟩) from ho.good.keep hbd)
  have hk2 := bthen (bthen (bthen HA2.out HBA2.out) hb) hbd
  have HX1 := Lib.hid (HX1.out.keep hk2)
  have HO1 := Lib.hid (HO1.out.keep hk2)
  have HW2 := Lib.hid (bthen HW1.out hk2)
  have HD2 := Lib.hid hd2
  clear hz ho hb hbd hk2 hd2 HA2 HBA2
  simp only [encR_eq]
  go_wp2_with fail
  rw [← HD2.out]
  clear HD2
  go_at_call 28
  refine (one_any' _).mono ?_
  rintro e a3 ⟨A3, B3, rfl, ha3⟩
  have HA3 := Lib.hid ha3
  obtain ⟨wa3, hwa3⟩ : ∃ wa, wa = (a3.alloc (.cells #[.string ⟨#[]⟩] 9)).alloc (.cells #[.int .i64 (0)] 3) := ⟨_, rfl⟩
  have HC3 := Lib.hid (of_one A3 B3 ⟨#[]⟩ (0) a3 wa3 hwa3 (by decide +kernel) (by decide +kernel))
  have hba3 : Below a3.heap.size a3 wa3 := by rw [hwa3]; exact bpush (bpush (Below.refl _ _) _) _
  have HWA3 := Lib.hid hwa3
  have HBA3 := Lib.hid hba3
  clear hba3 hwa3 ha3
  go_wp2_with fail
  rw [← HWA3.out]
  clear HWA3
  go_at_call 11
  refine HC3.out.mono ?_
  clear HC3
  rintro e b3 ⟨⟨⟨D3, n3, c3, G3, gn3, gc3⟩, ⟨t, L, q, X⟩⟩, rfl, hz, ho, hb⟩
  obtain ⟨rfl, rfl, rfl, rfl⟩ := RV.mk.inj (show (⟨t, L, q, X⟩ : RV) = ⟨4, [⟨#[]⟩], 1, [(0, 0, 0)]⟩ from hz)
  obtain ⟨d3, hd3⟩ : ∃ d, d = b3.alloc (.cells #[.int .i64 4, .slice D3 n3 c3, .int .i64 1, .slice G3 gn3 gc3] 27) := ⟨_, rfl⟩
  have hbd : Below b3.heap.size b3 d3 := by rw [hd3]; exact bpush (Below.refl _ _) _
  have HX3 := Lib.hid (show Bx4 d3 b3.heap.size (.int .i64 4) (.slice D3 n3 c3) (.int .i64 1) (.slice G3 gn3 gc3) by rw [hd3]; exact Bx4.made)
  have HO3 := Lib.hid (show Good d3 (⟨D3, n3, c3, G3, gn3, gc3⟩, ⟨4, [⟨#[]⟩], 1, [(0, 0, 0)]⟩) from ho.good.keep hbd)
  have hk3 := bthen (bthen (bthen HA3.out HBA3.out) hb) hbd
  have HX1 := Lib.hid (HX1.out.keep hk3)
  have HO1 := Lib.hid (HO1.out.keep hk3)
  have HX2 := Lib.hid (HX2.out.keep hk3)
  have HO2 := Lib.hid (HO2.out.keep hk3)
  have HW3 := Lib.hid (bthen HW2.out hk3)
  have HD3 := Lib.hid hd3
  clear hz ho hb hbd hk3 hd3 HA3 HBA3
  simp only [encR_eq]
  have hWC := HD3.out.symm
  obtain ⟨p10, p11, p12, p13, pf1⟩ := HX1.out
  obtain ⟨p20, p21, p22, p23, pf2⟩ := HX2.out
  obtain ⟨p30, p31, p32, p33, pf3⟩ := HX3.out
  obtain ⟨Z, hZ⟩ : ∃ Z : List RZ, Z = [(⟨D1, n1, c1, G1, gn1, gc1⟩, ⟨4, [⟨#[118]⟩], 1, [(7, 7, 7)]⟩), (⟨D2, n2, c2, G2, gn2, gc2⟩, ⟨4, [⟨#[118]⟩], 1, [(-2, -2, -2)]⟩), (⟨D3, n3, c3, G3, gn3, gc3⟩, ⟨4, [⟨#[]⟩], 1, [(0, 0, 0)]⟩)] := ⟨_, rfl⟩
  obtain ⟨wl, hwl⟩ : ∃ wl, wl = d3.alloc (.cells #[.int .i64 4, .slice D1 n1 c1, .int .i64 1, .slice G1 gn1 gc1, .int .i64 4, .slice D2 n2 c2, .int .i64 1, .slice G2 gn2 gc2, .int .i64 4, .slice D3 n3 c3, .int .i64 1, .slice G3 gn3 gc3] 27) := ⟨_, rfl⟩
  have hbl : Below d3.heap.size d3 wl := by rw [hwl]; exact bpush (Below.refl _ _) _
  have HFC := Lib.hid (fold_few (some ⟨d3.heap.size, 0, none⟩) 3 3 Z wl ⟨by rw [hwl, hZ]; exact Row.made rfl rfl, by
      rw [hZ]
      intro z hz
      simp only [List.mem_cons, List.not_mem_nil, or_false] at hz
      rcases hz with rfl | rfl | rfl
      · exact HO1.out.keep hbl
      · exact HO2.out.keep hbl
      · exact HO3.out.keep hbl⟩ (by rw [hZ]; rfl) (Nat.le_refl _) (by intro h; cases h) (by decide) (by decide) (by
      rw [hZ]
      intro z hz
      simp only [List.mem_cons, List.not_mem_nil, or_false] at hz
      rcases hz with rfl | rfl | rfl <;> exact ⟨(show (0 : Int) ≤ 1 by decide), (show (1 : Int) ≤ 1048576 by decide)⟩))
  have HZ := Lib.hid (show Z.map Prod.snd = [rowX ⟨#[118]⟩ 7, rowX ⟨#[118]⟩ (-2), rowX ⟨#[]⟩ 0] by rw [hZ]; rfl)
  have HWL := Lib.hid hwl
  have HBL := Lib.hid (bthen HW3.out hbl)
  clear hZ hwl hbl
  go_wp2_with fail
  rw [← HWL.out]
  go_at_call 23
  refine HFC.out.mono ?_
  clear HFC
  rintro e wf ⟨v, Y, x, K', rfl, hst, hfl, ho, hy, hb⟩
  rw [HZ.out] at hst
  obtain rfl := hst.uniq sorts_three
  rw [folds_three] at hfl
  obtain ⟨hym, rfl⟩ := Prod.mk.inj hfl.symm
  have hyl : Y.length = 2 := by have := congrArg List.length hym; simpa using this
  obtain ⟨hn, A, c, rfl, hr, hc, hm, ha⟩ := own_sliceR ho
  have h1 : 1 < Y.length := by omega
  obtain ⟨bb, oo, rfl, q0, q1, q2, q3⟩ := row4 hr h1
  have hy1 : Y[1].2 = ⟨4, [⟨#[118]⟩], 2, [(5, -2, 7)]⟩ := by
    have : (Y.map Prod.snd)[1]'(by simpa using h1) = ⟨4, [⟨#[118]⟩], 2, [(5, -2, 7)]⟩ := by simp only [hym]; rfl
    simpa using this
  have hg := (hy Y[1] (List.getElem_mem h1)).good
  obtain ⟨⟨⟨D9, n9, c9, G9, gn9, gc9⟩, R9⟩, hz9⟩ : ∃ z, z = Y[1] := ⟨_, rfl⟩
  rw [← hz9] at q0 q1 q2 q3 hy1 hg
  simp only at hy1
  subst hy1
  obtain ⟨b9, o9, hG9, r0, r1, r2⟩ := hg.rg.at3 (k := 0) (by simp)
  have hgn : gn9 = 1 := hg.ng
  simp only at hG9
  subst hG9 hgn
  simp only [List.getElem_cons_zero, Nat.zero_mul, Nat.add_zero, Nat.one_mul] at q0 q1 q2 q3 r0 r1 r2
  rw [hyl] at hc ⊢
  have HBF := Lib.hid (bthen HBL.out hb)
  clear hst hfl ho hy hb hym hr h1 hz9 hg hn hm ha hyl HZ HWL p10 p11 p12 p13 pf1 p20 p21 p22 p23 pf2 p30 p31 p32 p33 pf3 hWC
  go_wp2_with fail
  go_ret
  exact ⟨rfl, HBF.out⟩
end Go.Proofs.Ytlfhjjlgmhkepaa
