/- RowsTells. -/
import Derived.Test.YtlfhjjlgmhkepaaRS
import Derived.Test.YtlfhjjlgmhkepaaRP
namespace Go.Proofs.Ytlfhjjlgmhkepaa
open Go.RowKit
set_option linter.unusedSimpArgs false
set_option linter.unusedVariables false
set_option maxRecDepth 100000 in
set_option maxHeartbeats 16000000 in
theorem tells_walk (A B D1 G1 E F : Option Addr) (n c m d n1 c1 gn1 gc1 p q x y : Nat) (t1 u1 t : Int) (L M L1 D : List ByteArray) (X1 : List Ag) (X : List Int) (w : World) (hA : Row w A (texts L)) (hB : Row w B (texts M)) (hn : n = L.length) (hm : m = M.length) (hnc : n ≤ c) (hmd : m ≤ d) (ha : A = none → c = 0) (hb : B = none → d = 0)
    (hL : ∀ s ∈ L, s.size ≤ 9223372036854775807) (hM : ∀ s ∈ M, s.size ≤ 9223372036854775807) (hn2 : n ≤ 9223372036854775807) (hm2 : m ≤ 9223372036854775807) (hz : Good0 w (⟨D1, n1, c1, G1, gn1, gc1⟩, ⟨t1, L1, u1, X1⟩)) (hzs : ∀ s ∈ L1, s.size ≤ 9223372036854775807)
    (hE : Row w E (texts D)) (hF : Row w F (X.map (Value.int .i64))) (hp : p = D.length) (hx : x = X.length) (hD : ∀ s ∈ D, s.size ≤ 9223372036854775807) (hpq : p ≤ q) (hen : E = none → q = 0) (hp2 : p ≤ 9223372036854775807) (hx2 : x ≤ 9223372036854775807) :
    Calls Try.prog 3 #[.agg #[.slice A n c, .slice B m d], .agg #[.int .i64 t1, .slice D1 n1 c1, .int .i64 u1, .slice G1 gn1 gc1], .agg #[.int .i64 t, .slice E p q, .slice F x y]] w fun e w' => e = .returned (.bool true) ∧ Below w.heap.size w w' := by
  obtain ⟨W1, hW1⟩ : ∃ W1, W1 = ((w.alloc (.cells #[.slice A n c, .slice B m d] 24)).alloc (.cells #[.int .i64 t1, .slice D1 n1 c1, .int .i64 u1, .slice G1 gn1 gc1] 27)).alloc (.cells #[.int .i64 t, .slice E p q, .slice F x y] 30) := ⟨_, rfl⟩
  have hb1 : Below w.heap.size w W1 := by rw [hW1]; exact bpush (bpush (bpush (Below.refl _ _) _) _) _
  have HB1 := Lib.hid hb1
  have S0C := Lib.hid (show W1.cell? ⟨w.heap.size, 0, none⟩ = some (.slice A n c) by rw [hW1]; exact cell_on (bpush (bpush (Below.refl _ _) _) _) (cell_made rfl rfl))
  have S1C := Lib.hid (show W1.cell? ⟨w.heap.size, 1, none⟩ = some (.slice B m d) by rw [hW1]; exact cell_on (bpush (bpush (Below.refl _ _) _) _) (cell_made rfl rfl))
  have R0C := Lib.hid (show W1.cell? ⟨w.heap.size + 1, 0, none⟩ = some (.int .i64 t1) by rw [hW1]; exact cell_on (bpush (Below.refl _ _) _) (cell_made (by simp) rfl))
  have R1C := Lib.hid (show W1.cell? ⟨w.heap.size + 1, 1, none⟩ = some (.slice D1 n1 c1) by rw [hW1]; exact cell_on (bpush (Below.refl _ _) _) (cell_made (by simp) rfl))
  have R2C := Lib.hid (show W1.cell? ⟨w.heap.size + 1, 2, none⟩ = some (.int .i64 u1) by rw [hW1]; exact cell_on (bpush (Below.refl _ _) _) (cell_made (by simp) rfl))
  have R3C := Lib.hid (show W1.cell? ⟨w.heap.size + 1, 3, none⟩ = some (.slice G1 gn1 gc1) by rw [hW1]; exact cell_on (bpush (Below.refl _ _) _) (cell_made (by simp) rfl))
  have V0C := Lib.hid (show W1.cell? ⟨w.heap.size + 1 + 1, 0, none⟩ = some (.int .i64 t) by rw [hW1]; exact cell_made (by simp) rfl)
  have V1C := Lib.hid (show W1.cell? ⟨w.heap.size + 1 + 1, 1, none⟩ = some (.slice E p q) by rw [hW1]; exact cell_made (by simp) rfl)
  have V2C := Lib.hid (show W1.cell? ⟨w.heap.size + 1 + 1, 2, none⟩ = some (.slice F x y) by rw [hW1]; exact cell_made (by simp) rfl)
  have HA := Lib.hid (hA.keep (Nat.le_refl _) hb1)
  have HB := Lib.hid (hB.keep (Nat.le_refl _) hb1)
  have HE := Lib.hid (hE.keep (Nat.le_refl _) hb1)
  have HF := Lib.hid (hF.keep (Nat.le_refl _) hb1)
  have HZ := Lib.hid (hz.keep hb1)
  obtain ⟨r, hr⟩ := bool_of (fitsRows L M [])
  have HFT := Lib.hid (fitsrows_any A B none n c m d 0 0 L M [] W1 HA.out HB.out (.inl rfl) (fun z hz => by cases hz) hn hm rfl hnc hmd ha hb hL hM hn2 hm2 (by decide) (fun z hz => by cases hz) r hr)
  obtain ⟨a1, ha1⟩ := bool_of (fitsP L1)
  obtain ⟨a2, ha2⟩ := bool_of (fitsP D)
  have HA1 := Lib.hid ha1
  have HA2 := Lib.hid ha2
  have HN := Lib.hid hn
  have HM := Lib.hid hm
  have HP := Lib.hid hp
  have HX := Lib.hid hx
  have HD := Lib.hid hD
  have HPQ := Lib.hid hpq
  have HEN := Lib.hid hen
  have HP2 := Lib.hid hp2
  have HZS := Lib.hid hzs
  have HW1 := Lib.hid hW1
  have HBW := Lib.hid (Below.refl W1.heap.size W1)
  clear hA hB hn hm hnc hmd ha hb hL hM hn2 hm2 hz hzs hE hF hp hx hD hpq hen hp2 hr ha1 ha2 hW1 hb1
  go_enter Try.func3, Try.ntmps3
  go_wp2_with fail
  rw [← HW1.out]
  clear HW1
  go_at_call 8
  refine HFT.out.mono ?_
  clear HFT
  intro e w1 h
  obtain ⟨he, hb⟩ := h
  subst he
  have HBW := Lib.hid (bthen HBW.out hb)
  clear hb
  have s0 := cell_on HBW.out S0C.out
  have s1 := cell_on HBW.out S1C.out
  have r0 := cell_on HBW.out R0C.out
  have r1 := cell_on HBW.out R1C.out
  have r2 := cell_on HBW.out R2C.out
  have r3 := cell_on HBW.out R3C.out
  have v0 := cell_on HBW.out V0C.out
  have v1 := cell_on HBW.out V1C.out
  have v2 := cell_on HBW.out V2C.out
  go_wp2_with fail
  go_at_call 9
  refine (fits_any D1 n1 c1 L1 w1 (HZ.out.rd.keep (Nat.le_refl _) HBW.out) HZ.out.nd HZ.out.sd a1 HA1.out).mono ?_
  rintro e w1' ⟨rfl, rfl⟩
  go_wp2_with fail
  go_at_call 9
  refine (fits_any E p q D w1 (HE.out.keep (Nat.le_refl _) HBW.out) HP.out HP2.out a2 HA2.out).mono ?_
  rintro e w1' ⟨rfl, rfl⟩
  cases r with
  | false =>
    go_wp2_with fail
    go_at_call 10
    refine (alive_any _).mono ?_
    rintro e w8 ⟨rfl, hb⟩
    have HBW := Lib.hid (bthen HBW.out hb)
    clear hb
    go_wp2_with fail
    go_ret
    exact ⟨rfl, bthen HB1.out HBW.out⟩
  | true =>
  cases a1 with
  | false =>
    go_wp2_with fail
    go_at_call 10
    refine (alive_any _).mono ?_
    rintro e w8 ⟨rfl, hb⟩
    have HBW := Lib.hid (bthen HBW.out hb)
    clear hb
    go_wp2_with fail
    go_ret
    exact ⟨rfl, bthen HB1.out HBW.out⟩
  | true =>
  cases a2 with
  | false =>
    go_wp2_with fail
    go_at_call 10
    refine (alive_any _).mono ?_
    rintro e w8 ⟨rfl, hb⟩
    have HBW := Lib.hid (bthen HBW.out hb)
    clear hb
    go_wp2_with fail
    go_ret
    exact ⟨rfl, bthen HB1.out HBW.out⟩
  | true =>
  by_cases hg20 : gn1 ≤ 20
  case neg =>
    have hgt : (20 : Int) < (gn1 : Int) := by omega
    go_wp2_with fail
    go_at_call 10
    refine (alive_any _).mono ?_
    rintro e w8 ⟨rfl, hb⟩
    have HBW := Lib.hid (bthen HBW.out hb)
    clear hb
    go_wp2_with fail
    go_ret
    exact ⟨rfl, bthen HB1.out HBW.out⟩
  case pos =>
  have hgt : ¬ (20 : Int) < (gn1 : Int) := by omega
  by_cases hx20 : x ≤ 20
  case neg =>
    have hgx : (20 : Int) < (x : Int) := by omega
    go_wp2_with fail
    go_at_call 10
    refine (alive_any _).mono ?_
    rintro e w8 ⟨rfl, hb⟩
    have HBW := Lib.hid (bthen HBW.out hb)
    clear hb
    go_wp2_with fail
    go_ret
    exact ⟨rfl, bthen HB1.out HBW.out⟩
  case pos =>
  have hgx : ¬ (20 : Int) < (x : Int) := by omega
  have hp20 : p ≤ 20 := by have := (HA2.out.1 rfl).1; have := HP.out; omega
  obtain ⟨v, hv⟩ := check_ex L M D X t
  obtain ⟨⟨rr, er⟩, hof⟩ : ∃ z, z = ofR t D X v := ⟨_, rfl⟩
  have HO1 := Lib.hid (show ∀ W, Below W1.heap.size W1 W → Calls Try.prog 11 #[.agg #[.slice A n c, .slice B m d], .agg #[.int .i64 t, .slice E p q, .slice F x y]] W (JoinPost W (rr, er)) from fun W hW => by
    rw [hof]
    exact of_any A B E F n c m d p q x y t L M D X W (HE.out.keep (Nat.le_refl _) hW) (HF.out.keep (Nat.le_refl _) hW) HN.out HM.out HP.out HX.out HD.out HPQ.out HEN.out (by omega) (by omega) v hv)
  have HO2 := Lib.hid (show ∀ W, Below W1.heap.size W1 W → Calls Try.prog 12 #[.agg #[.slice A n c, .slice B m d], .agg #[.int .i64 t, .slice E p q, .slice F x y]] W (JoinPost W (rr, er)) from fun W hW => by
    rw [hof]
    exact refof_any A B E F n c m d p q x y t L M D X W (HE.out.keep (Nat.le_refl _) hW) (HF.out.keep (Nat.le_refl _) hW) HN.out HM.out HP.out HX.out HD.out HPQ.out HEN.out (by omega) (by omega) v hv)
  clear hv hof
  go_wp2_with fail
  go_at_call 11
  refine (HO1.out _ HBW.out).mono ?_
  clear HO1
  rintro e w2 ⟨⟨⟨D3, n3, c3, G3, gn3, gc3⟩, ⟨t3, L3, u3, X3⟩⟩, rfl, hz3, ho3, hb⟩
  simp only [encR_eq]
  have HZ3 := Lib.hid (show (⟨t3, L3, u3, X3⟩ : RV) = rr from hz3)
  obtain ⟨d1, hd1⟩ : ∃ d1, d1 = w2.alloc (.cells #[.int .i64 t3, .slice D3 n3 c3, .int .i64 u3, .slice G3 gn3 gc3] 27) := ⟨_, rfl⟩
  have hbd : Below w2.heap.size w2 d1 := by rw [hd1]; exact bpush (Below.refl _ _) _
  have HBX3 := Lib.hid (show Bx4 d1 w2.heap.size (.int .i64 t3) (.slice D3 n3 c3) (.int .i64 u3) (.slice G3 gn3 gc3) by rw [hd1]; exact Bx4.made)
  have HG3 := Lib.hid (show Good d1 (⟨D3, n3, c3, G3, gn3, gc3⟩, ⟨t3, L3, u3, X3⟩) from ho3.good.keep hbd)
  have HBW := Lib.hid (bthen (bthen HBW.out hb) hbd)
  have hWC := hd1.symm
  clear hz3 ho3 hb hbd hd1
  clear s0 s1 r0 r1 r2 r3 v0 v1 v2
  have s0 := cell_on HBW.out S0C.out
  have s1 := cell_on HBW.out S1C.out
  have r0 := cell_on HBW.out R0C.out
  have r1 := cell_on HBW.out R1C.out
  have r2 := cell_on HBW.out R2C.out
  have r3 := cell_on HBW.out R3C.out
  have v0 := cell_on HBW.out V0C.out
  have v1 := cell_on HBW.out V1C.out
  have v2 := cell_on HBW.out V2C.out
  go_wp2_with fail
  go_at_call 12
  refine (HO2.out _ HBW.out).mono ?_
  clear HO2 hWC
  rintro e w3 ⟨⟨⟨D4, n4, c4, G4, gn4, gc4⟩, ⟨t4, L4, u4, X4⟩⟩, rfl, hz4, ho4, hb⟩
  simp only [encR_eq]
  have HZ4 := Lib.hid (show (⟨t4, L4, u4, X4⟩ : RV) = rr from hz4)
  obtain ⟨d2, hd2⟩ : ∃ d2, d2 = w3.alloc (.cells #[.int .i64 t4, .slice D4 n4 c4, .int .i64 u4, .slice G4 gn4 gc4] 27) := ⟨_, rfl⟩
  have hbd : Below w3.heap.size w3 d2 := by rw [hd2]; exact bpush (Below.refl _ _) _
  have hb2 : Below d1.heap.size d1 d2 := bthen hb hbd
  have HBX4 := Lib.hid (show Bx4 d2 w3.heap.size (.int .i64 t4) (.slice D4 n4 c4) (.int .i64 u4) (.slice G4 gn4 gc4) by rw [hd2]; exact Bx4.made)
  have HG4 := Lib.hid (show Good d2 (⟨D4, n4, c4, G4, gn4, gc4⟩, ⟨t4, L4, u4, X4⟩) from ho4.good.keep hbd)
  have HBX3 := Lib.hid (HBX3.out.keep hb2)
  have HG3 := Lib.hid (HG3.out.keep hb2)
  have HBW := Lib.hid (bthen HBW.out hb2)
  have HD2 := Lib.hid hd2
  clear hz4 ho4 hb hbd hd2 hb2
  go_upto_region 8 with fail
  rw [← HD2.out]
  clear HD2
  clear s0 s1 r0 r1 r2 r3 v0 v1 v2
  have s0 := cell_on HBW.out S0C.out
  have s1 := cell_on HBW.out S1C.out
  have r0 := cell_on HBW.out R0C.out
  have r1 := cell_on HBW.out R1C.out
  have r2 := cell_on HBW.out R2C.out
  have r3 := cell_on HBW.out R3C.out
  have v0 := cell_on HBW.out V0C.out
  have v1 := cell_on HBW.out V1C.out
  have v2 := cell_on HBW.out V2C.out
  obtain ⟨p0, p1, p2, p3, pf3⟩ := HBX3.out
  obtain ⟨q0, q1, q2, q3, qf3⟩ := HBX4.out
  obtain ⟨b, hbb⟩ := bool_of (rowOk n m t1 u1 L1 X1)
  have HRC := Lib.hid (show ∀ W, Below d2.heap.size d2 W → Calls Try.prog 13 #[.agg #[.slice A n c, .slice B m d], .agg #[.int .i64 t1, .slice D1 n1 c1, .int .i64 u1, .slice G1 gn1 gc1]] W fun e w' => e = .returned (.bool b) ∧ Below W.heap.size W w' from fun W hW =>
    rowright_any t1 u1 A B D1 G1 n m c d n1 c1 gn1 gc1 L1 X1 W (HZ.out.rd.keep (Nat.le_refl _) (bthen HBW.out hW)) (HZ.out.rg.keep (Nat.le_refl _) (bthen HBW.out hW)) HZ.out.nd HZ.out.ng HZ.out.sd HZ.out.sg HZS.out b hbb)
  have HRD := Lib.hid (show ∀ W, Below d2.heap.size d2 W → Calls Try.prog 14 #[.agg #[.slice A n c, .slice B m d], .agg #[.int .i64 t1, .slice D1 n1 c1, .int .i64 u1, .slice G1 gn1 gc1]] W fun e w' => e = .returned (.bool b) ∧ Below W.heap.size W w' from fun W hW =>
    refrowright_any t1 u1 A B D1 G1 n m c d n1 c1 gn1 gc1 L1 X1 W (HZ.out.rd.keep (Nat.le_refl _) (bthen HBW.out hW)) (HZ.out.rg.keep (Nat.le_refl _) (bthen HBW.out hW)) HZ.out.nd HZ.out.ng HZ.out.sd HZ.out.sg HZS.out b hbb)
  have HON := Lib.hid (show ∀ W, Below d2.heap.size d2 W → Calls Try.prog 15 #[.agg #[.int .i64 t3, .slice D3 n3 c3, .int .i64 u3, .slice G3 gn3 gc3], .agg #[.int .i64 t4, .slice D4 n4 c4, .int .i64 u4, .slice G4 gn4 gc4]] W fun e w' => e = .returned (.bool true) ∧ Below W.heap.size W w' from fun W hW =>
    refrow_any t3 t4 u3 u4 D3 D4 G3 G4 n3 c3 n4 c4 gn3 gc3 gn4 gc4 L3 L4 X3 X4 W (HG3.out.rd.keep (Nat.le_refl _) hW) (HG4.out.rd.keep (Nat.le_refl _) hW) (HG3.out.rg.keep (Nat.le_refl _) hW) (HG4.out.rg.keep (Nat.le_refl _) hW) HG3.out.nd HG4.out.nd HG3.out.ng HG4.out.ng (by have := HG3.out.sd; simp only at this; omega) (by have := HG4.out.sd; simp only at this; omega) (by have := HG3.out.sg; simp only at this; omega) (by have := HG4.out.sg; simp only at this; omega) true ⟨fun _ => by
      obtain ⟨e1, e2, e3, e4⟩ := RV.mk.inj (HZ3.out.trans HZ4.out.symm)
      exact ⟨⟨e2, e1⟩, e4, e3⟩, fun _ => rfl⟩)
  clear hbb
  refine wp_region_held_drew (S := fun w' => Below d2.heap.size d2 w') (by kernel_rfl) (below_drewN (Below.refl _ _) 1) ?_
  intro hHeld
  refine wpAnyH_ready (rs := [0]) (by kernel_rfl) (by simp) ?_
  refine AllReadyH.cons rfl (fun K hK => ?_) AllReadyH.nil
  go_simp
  (go_at_call 10; refine (alive_any _).mono ?_; rintro e w7 ⟨rfl, hb⟩)
  refine hK.out _ _ (bthen hHeld hb) (fun hHeld => ?_)
  clear hK K
  (try simp only [Act.put, List.setIfInBounds_toArray, List.set_cons_zero, List.set_cons_succ])
  refine take_want (i := 1) (v := ?v1k1) rfl (by kernel_rfl) (by kernel_rfl) (by kernel_rfl) (fun _ _ _ h => h) (by rfl) ?y1k1 (by assumption) ?r1k1
  case y1k1 => (intro w hSw; go_simp; all_goals with_reducible rfl)
  (try simp only [Act.put, List.setIfInBounds_toArray, List.set_cons_zero, List.set_cons_succ])
  refine take_want (i := 2) (v := ?v2k1) rfl (by kernel_rfl) (by kernel_rfl) (by kernel_rfl) (fun _ _ _ h => h) (by rfl) ?y2k1 (by assumption) ?r2k1
  case y2k1 => (intro w hSw; have m0 := cell_on hSw s0; have m1 := cell_on hSw s1; have m2 := cell_on hSw r0; have m3 := cell_on hSw r1; have m4 := cell_on hSw r2; have m5 := cell_on hSw r3; go_simp; all_goals with_reducible rfl)
  (try simp only [Act.put, List.setIfInBounds_toArray, List.set_cons_zero, List.set_cons_succ])
  refine take_want (i := 3) (v := ?v3k1) rfl (by kernel_rfl) (by kernel_rfl) (by kernel_rfl) (fun _ _ _ h => h) (by rfl) ?y3k1 (by assumption) ?r3k1
  case y3k1 => (intro w hSw; have m0 := cell_on hSw s0; have m1 := cell_on hSw s1; have m2 := cell_on hSw r0; have m3 := cell_on hSw r1; have m4 := cell_on hSw r2; have m5 := cell_on hSw r3; go_simp; all_goals with_reducible rfl)
  (try simp only [Act.put, List.setIfInBounds_toArray, List.set_cons_zero, List.set_cons_succ])
  refine take_want (i := 5) (v := ?v5k1) rfl (by kernel_rfl) (by kernel_rfl) (by kernel_rfl) (fun _ _ _ h => h) (by rfl) ?y5k1 (by assumption) ?r5k1
  case y5k1 => (intro w hSw; have m0 := cell_on hSw s0; have m1 := cell_on hSw s1; have m2 := cell_on hSw r0; have m3 := cell_on hSw r1; have m4 := cell_on hSw r2; have m5 := cell_on hSw r3; go_simp; all_goals with_reducible rfl)
  (try simp only [Act.put, List.setIfInBounds_toArray, List.set_cons_zero, List.set_cons_succ])
  refine take_want (i := 6) (v := ?v6k1) rfl (by kernel_rfl) (by kernel_rfl) (by kernel_rfl) (fun _ _ _ h => h) (by rfl) ?y6k1 (by assumption) ?r6k1
  case y6k1 => (intro w hSw; have m0 := cell_on hSw s0; have m1 := cell_on hSw s1; have m2 := cell_on hSw r0; have m3 := cell_on hSw r1; have m4 := cell_on hSw r2; have m5 := cell_on hSw r3; go_simp; all_goals with_reducible rfl)
  (try simp only [Act.put, List.setIfInBounds_toArray, List.set_cons_zero, List.set_cons_succ])
  refine wpAnyH_ready (rs := [4]) (by kernel_rfl) (by simp) ?_
  refine AllReadyH.cons rfl (fun K hK => ?_) AllReadyH.nil
  go_simp
  (go_at_call 13; refine (HRC.out _ hHeld).mono ?_; rintro e w9 ⟨rfl, hb⟩)
  refine hK.out _ _ (bthen hHeld hb) (fun hHeld => ?_)
  clear hK K
  (try simp only [Act.put, List.setIfInBounds_toArray, List.set_cons_zero, List.set_cons_succ])
  refine wpAnyH_ready (rs := [7]) (by kernel_rfl) (by simp) ?_
  refine AllReadyH.cons rfl (fun K hK => ?_) AllReadyH.nil
  go_simp
  (go_at_call 14; refine (HRD.out _ hHeld).mono ?_; rintro e w10 ⟨rfl, hb⟩)
  refine hK.out _ _ (bthen hHeld hb) (fun hHeld => ?_)
  clear hK K
  (try simp only [Act.put, List.setIfInBounds_toArray, List.set_cons_zero, List.set_cons_succ])
  refine take_want (i := 8) (v := (.bool true)) rfl (by kernel_rfl) (by kernel_rfl) (by kernel_rfl) (fun _ _ _ h => h) (by rfl) ?y8k1 (by assumption) ?r8k1
  case y8k1 => (intro w hSw; go_simp; (try simp))
  (try simp only [Act.put, List.setIfInBounds_toArray, List.set_cons_zero, List.set_cons_succ])
  refine take_want (i := 9) (v := ?v9k1) rfl (by kernel_rfl) (by kernel_rfl) (by kernel_rfl) (fun _ _ _ h => h) (by rfl) ?y9k1 (by assumption) ?r9k1
  case y9k1 => (intro w hSw; go_simp; all_goals with_reducible rfl)
  (try simp only [Act.put, List.setIfInBounds_toArray, List.set_cons_zero, List.set_cons_succ])
  refine take_want (i := 10) (v := ?v10k1) rfl (by kernel_rfl) (by kernel_rfl) (by kernel_rfl) (fun _ _ _ h => h) (by rfl) ?y10k1 (by assumption) ?r10k1
  case y10k1 => (intro w hSw; go_simp; all_goals with_reducible rfl)
  (try simp only [Act.put, List.setIfInBounds_toArray, List.set_cons_zero, List.set_cons_succ])
  refine take_want (i := 11) (v := ?v11k1) rfl (by kernel_rfl) (by kernel_rfl) (by kernel_rfl) (fun _ _ _ h => h) (by rfl) ?y11k1 (by assumption) ?r11k1
  case y11k1 => (intro w hSw; have m0 := cell_on hSw p0; have m1 := cell_on hSw p1; have m2 := cell_on hSw p2; have m3 := cell_on hSw p3; have m4 := cell_on hSw q0; have m5 := cell_on hSw q1; have m6 := cell_on hSw q2; have m7 := cell_on hSw q3; go_simp; all_goals with_reducible rfl)
  (try simp only [Act.put, List.setIfInBounds_toArray, List.set_cons_zero, List.set_cons_succ])
  refine take_want (i := 12) (v := ?v12k1) rfl (by kernel_rfl) (by kernel_rfl) (by kernel_rfl) (fun _ _ _ h => h) (by rfl) ?y12k1 (by assumption) ?r12k1
  case y12k1 => (intro w hSw; have m0 := cell_on hSw p0; have m1 := cell_on hSw p1; have m2 := cell_on hSw p2; have m3 := cell_on hSw p3; have m4 := cell_on hSw q0; have m5 := cell_on hSw q1; have m6 := cell_on hSw q2; have m7 := cell_on hSw q3; go_simp; all_goals with_reducible rfl)
  (try simp only [Act.put, List.setIfInBounds_toArray, List.set_cons_zero, List.set_cons_succ])
  refine wpAnyH_ready (rs := [13]) (by kernel_rfl) (by simp) ?_
  refine AllReadyH.cons rfl (fun K hK => ?_) AllReadyH.nil
  go_simp
  (go_at_call 15; refine (HON.out _ hHeld).mono ?_; rintro e w11 ⟨rfl, hb⟩)
  refine hK.out _ _ (bthen hHeld hb) (fun hHeld => ?_)
  clear hK K
  (try simp only [Act.put, List.setIfInBounds_toArray, List.set_cons_zero, List.set_cons_succ])
  refine take_want (i := 14) (v := ?v14k1) rfl (by kernel_rfl) (by kernel_rfl) (by kernel_rfl) (fun _ _ _ h => h) (by rfl) ?y14k1 (by assumption) ?r14k1
  case y14k1 => (intro w hSw; go_simp; all_goals with_reducible rfl)
  (try simp only [Act.put, List.setIfInBounds_toArray, List.set_cons_zero, List.set_cons_succ])
  refine take_want (i := 15) (v := ?v15k1) rfl (by kernel_rfl) (by kernel_rfl) (by kernel_rfl) (fun _ _ _ h => h) (by rfl) ?y15k1 (by assumption) ?r15k1
  case y15k1 => (intro w hSw; go_simp; all_goals with_reducible rfl)
  (try simp only [Act.put, List.setIfInBounds_toArray, List.set_cons_zero, List.set_cons_succ])
  refine take_want (i := 16) (v := ?v16k1) rfl (by kernel_rfl) (by kernel_rfl) (by kernel_rfl) (fun _ _ _ h => h) (by rfl) ?y16k1 (by assumption) ?r16k1
  case y16k1 => (intro w hSw; go_simp; all_goals with_reducible rfl)
  (try simp only [Act.put, List.setIfInBounds_toArray, List.set_cons_zero, List.set_cons_succ])
  refine take_want (i := 17) (v := ?v17k1) rfl (by kernel_rfl) (by kernel_rfl) (by kernel_rfl) (fun _ _ _ h => h) (by rfl) ?y17k1 (by assumption) ?r17k1
  case y17k1 => (intro w hSw; go_simp; all_goals with_reducible rfl)
  (try simp only [Act.put, List.setIfInBounds_toArray, List.set_cons_zero, List.set_cons_succ])
  refine take_want (i := 18) (v := (.bool true)) rfl (by kernel_rfl) (by kernel_rfl) (by kernel_rfl) (fun _ _ _ h => h) (by rfl) ?y18k1 (by assumption) ?r18k1
  case y18k1 => (intro w hSw; go_simp; (try simp))
  (try simp only [Act.put, List.setIfInBounds_toArray, List.set_cons_zero, List.set_cons_succ])
  refine take_want (i := 19) (v := ?v19k1) rfl (by kernel_rfl) (by kernel_rfl) (by kernel_rfl) (fun _ _ _ h => h) (by rfl) ?y19k1 (by assumption) ?r19k1
  case y19k1 => (intro w hSw; go_simp; all_goals with_reducible rfl)
  (try simp only [Act.put, List.setIfInBounds_toArray, List.set_cons_zero, List.set_cons_succ])
  refine take_want (i := 20) (v := ?v20k1) rfl (by kernel_rfl) (by kernel_rfl) (by kernel_rfl) (fun _ _ _ h => h) (by rfl) ?y20k1 (by assumption) ?r20k1
  case y20k1 => (intro w hSw; go_simp; all_goals with_reducible rfl)
  (try simp only [Act.put, List.setIfInBounds_toArray, List.set_cons_zero, List.set_cons_succ])
  refine wpAnyH_done (by kernel_rfl) ?_ _
  go_wp2_with fail
  go_ret
  exact ⟨rfl, bthen HB1.out (bthen HBW.out hHeld)⟩
section
open Go.ChangeShapes Go.WideShapes Go.ChangeAt Go.Joins
set_option maxRecDepth 100000 in
theorem one_opened {H : Type} {enc : TypeId × Value → H} {w : World} {base : Nat} {spare : Nat → Bool} {held : Bool} {r : Reach} {b0 : Nat} {v : Value} {d : DataW H} {p : List MemPlace} (hv : Value.okWide Try.prog w r b0 27 v) (h : DataW.Trod enc Try.prog w base spare held 27 v d p) :
    ∃ z : RZ, v = .agg (encR z).toArray ∧ Good0 w z ∧ ∀ s ∈ z.2.dims, s.size ≤ 9223372036854775807 := by
  have hC : Try.prog.cellsOf 27 = 4 := by kernel_rfl
  obtain ⟨cs, rfl, hsz⟩ := okWide_struct Try.underlying27 hv
  obtain ⟨fuel, hf⟩ := h
  have hs4 : cs.toList.length = 4 := by have := hsz.trans hC; simpa using this
  obtain ⟨l, hcl⟩ : ∃ l, l = cs.toList := ⟨_, rfl⟩
  have hca : cs = l.toArray := by rw [hcl]
  rw [← hcl] at hs4
  subst hca
  match l, hs4 with
  | [a0, a1, a2, a3], _ =>
    obtain ⟨z0, e0, g0, s0⟩ := row_opened4 (c0 := a0) (c1 := a1) (c2 := a2) (c3 := a3) (by simpa [Value.cells] using hf)
    exact ⟨z0, by rw [e0], g0, s0⟩
end
theorem tells_all (A B E F : Option Addr) (n c m d p q x y : Nat) (t : Int) (L M D : List ByteArray) (X : List Int) (z : RZ) (w : World) (hA : Row w A (texts L)) (hB : Row w B (texts M)) (hn : n = L.length) (hm : m = M.length) (hnc : n ≤ c) (hmd : m ≤ d) (ha : A = none → c = 0) (hb : B = none → d = 0)
    (hL : ∀ s ∈ L, s.size ≤ 9223372036854775807) (hM : ∀ s ∈ M, s.size ≤ 9223372036854775807) (hc : c ≤ 9223372036854775807) (hd : d ≤ 9223372036854775807) (hz : Good0 w z ∧ ∀ s ∈ z.2.dims, s.size ≤ 9223372036854775807)
    (hE : Row w E (texts D)) (hF : Row w F (X.map (Value.int .i64))) (hp : p = D.length) (hx : x = X.length) (hD : ∀ s ∈ D, s.size ≤ 9223372036854775807) (hpq : p ≤ q) (hen : E = none → q = 0) (hq : q ≤ 9223372036854775807) (hxy : x ≤ y) (hy : y ≤ 9223372036854775807) :
    Calls Try.prog 3 #[.agg #[.slice A n c, .slice B m d], .agg (encR z).toArray, .agg #[.int .i64 t, .slice E p q, .slice F x y]] w fun e w' => e = .returned (.bool true) ∧ Below w.heap.size w w' :=
  tells_walk A B z.1.D z.1.G E F n c m d z.1.n z.1.c z.1.gn z.1.gc p q x y z.2.t z.2.count t L M z.2.dims D z.2.aggs X w hA hB hn hm hnc hmd ha hb hL hM (Nat.le_trans hnc hc) (Nat.le_trans hmd hd) hz.1 hz.2 hE hF hp hx hD hpq hen (Nat.le_trans hpq hq) (Nat.le_trans hxy hy)
end Go.Proofs.Ytlfhjjlgmhkepaa
