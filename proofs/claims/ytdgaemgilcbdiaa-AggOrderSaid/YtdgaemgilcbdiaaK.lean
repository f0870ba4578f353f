import Derived.Test.YtdgaemgilcbdiaaJ
namespace Go.Proofs.Ytdgaemgilcbdiaa
open Go.RowKit
set_option linter.unusedSimpArgs false
theorem rightB_fit {a : A3} (h : a.right = true) : fit1 a.mn = true := by
  simp only [A3.right, rightB, Bool.and_eq_true] at h; exact h.1.1.2
theorem joinA_comm (a b : A3) : joinA b a = joinA a b := by
  unfold joinA
  rw [Int.add_comm b.s a.s, Int.min_comm b.mn a.mn, Int.max_comm b.mx a.mx]
  by_cases ha : a.right = true <;> by_cases hb : b.right = true <;> simp [ha, hb]
theorem joinA_inv {a b r : A3} (h : joinA a b = (r, 0)) : a.right = true ∧ b.right = true ∧ r = ⟨a.s + b.s, min a.mn b.mn, max a.mx b.mx⟩ := by
  unfold joinA at h
  by_cases hab : a.right = true ∧ b.right = true
  · rw [if_pos hab] at h
    by_cases hf : fit1 (a.s + b.s) = true
    · rw [if_pos hf] at h; cases h; exact ⟨hab.1, hab.2, rfl⟩
    · rw [if_neg hf] at h; cases h
  · rw [if_neg hab] at h; cases h
theorem joinA_fit {a b r : A3} (h : joinA a b = (r, 0)) : fit1 (a.s + b.s) = true := by
  unfold joinA at h
  by_cases hab : a.right = true ∧ b.right = true
  · rw [if_pos hab] at h
    by_cases hf : fit1 (a.s + b.s) = true
    · exact hf
    · rw [if_neg hf] at h; cases h
  · rw [if_neg hab] at h; cases h
theorem joinA_assoc {a b c x z u v : A3} (h1 : joinA a b = (x, 0)) (h2 : joinA x c = (z, 0)) (h3 : joinA b c = (u, 0)) (h4 : joinA a u = (v, 0)) : z = v := by
  obtain ⟨-, -, rfl⟩ := joinA_inv h1
  obtain ⟨-, -, rfl⟩ := joinA_inv h2
  obtain ⟨-, -, rfl⟩ := joinA_inv h3
  obtain ⟨-, -, rfl⟩ := joinA_inv h4
  simp only [A3.mk.injEq]
  omega
set_option maxHeartbeats 1000000 in
theorem both_any (a b c : A3) (w : World) :
    Calls Try.prog 6 #[.agg #[.int .i64 a.s, .int .i64 a.mn, .int .i64 a.mx], .agg #[.int .i64 b.s, .int .i64 b.mn, .int .i64 b.mx], .agg #[.int .i64 c.s, .int .i64 c.mn, .int .i64 c.mx]] w
      fun e w' => e = .returned (.bool true) ∧ Below w.heap.size w w' := by
  obtain ⟨⟨x, e1⟩, h1⟩ : ∃ p, joinA a b = p := ⟨_, rfl⟩
  have h2 : joinA b a = (x, e1) := (joinA_comm a b).trans h1
  have H1 := Lib.hid h1
  have H2 := Lib.hid h2
  obtain ⟨⟨z, e3⟩, h3⟩ : ∃ p, joinA x c = p := ⟨_, rfl⟩
  obtain ⟨⟨u, e4⟩, h4⟩ : ∃ p, joinA b c = p := ⟨_, rfl⟩
  obtain ⟨⟨v, e5⟩, h5⟩ : ∃ p, joinA a u = p := ⟨_, rfl⟩
  have H3 := Lib.hid h3
  have H4 := Lib.hid h4
  have H5 := Lib.hid h5
  clear h1 h2 h3 h4 h5
  have hA := ((Box3.new w 23 a.s a.mn a.mx).alloc (.cells #[.int .i64 b.s, .int .i64 b.mn, .int .i64 b.mx] 23)).alloc (.cells #[.int .i64 c.s, .int .i64 c.mn, .int .i64 c.mx] 23)
  have hD := (Box3.new (w.alloc (.cells #[.int .i64 a.s, .int .i64 a.mn, .int .i64 a.mx] 23)) 23 b.s b.mn b.mx).alloc (.cells #[.int .i64 c.s, .int .i64 c.mn, .int .i64 c.mx] 23)
  have hC := Box3.new ((w.alloc (.cells #[.int .i64 a.s, .int .i64 a.mn, .int .i64 a.mx] 23)).alloc (.cells #[.int .i64 b.s, .int .i64 b.mn, .int .i64 b.mx] 23)) 23 c.s c.mn c.mx
  have hB := bpush (bpush (bpush (Below.refl w.heap.size w) (.cells #[.int .i64 a.s, .int .i64 a.mn, .int .i64 a.mx] 23)) (.cells #[.int .i64 b.s, .int .i64 b.mn, .int .i64 b.mx] 23)) (.cells #[.int .i64 c.s, .int .i64 c.mn, .int .i64 c.mx] 23)
  simp only [World.size_alloc] at hD hC
  go_enter Try.func6, Try.ntmps6
  go_wp2_with fail
  refine (join_all H1.out _).mono ?_
  rintro e w1 ⟨rfl, hb⟩
  replace hA := hA.keep hb
  replace hD := hD.keep hb
  replace hC := hC.keep hb
  replace hB := bthen hB hb
  clear hb
  replace hA := hA.alloc (.cells #[.int .i64 x.s, .int .i64 x.mn, .int .i64 x.mx] 23)
  replace hD := hD.alloc (.cells #[.int .i64 x.s, .int .i64 x.mn, .int .i64 x.mx] 23)
  replace hC := hC.alloc (.cells #[.int .i64 x.s, .int .i64 x.mn, .int .i64 x.mx] 23)
  have hX := Box3.new w1 23 x.s  x.mn  x.mx
  replace hB := bpush hB (.cells #[.int .i64 x.s, .int .i64 x.mn, .int .i64 x.mx] 23)
  have qA := hA; obtain ⟨A0, A1, A2, Af⟩ := qA
  have qD := hD; obtain ⟨D0, D1, D2, Df⟩ := qD
  go_wp2_with fail
  refine (join_all H2.out _).mono ?_
  rintro e w2 ⟨rfl, hb⟩
  clear A0 A1 A2 Af D0 D1 D2 Df
  replace hA := hA.keep hb
  replace hD := hD.keep hb
  replace hC := hC.keep hb
  replace hX := hX.keep hb
  replace hB := bthen hB hb
  clear hb
  replace hA := hA.alloc (.cells #[.int .i64 x.s, .int .i64 x.mn, .int .i64 x.mx] 23)
  replace hD := hD.alloc (.cells #[.int .i64 x.s, .int .i64 x.mn, .int .i64 x.mx] 23)
  replace hC := hC.alloc (.cells #[.int .i64 x.s, .int .i64 x.mn, .int .i64 x.mx] 23)
  replace hX := hX.alloc (.cells #[.int .i64 x.s, .int .i64 x.mn, .int .i64 x.mx] 23)
  have hY := Box3.new w2 23 x.s  x.mn  x.mx
  replace hB := bpush hB (.cells #[.int .i64 x.s, .int .i64 x.mn, .int .i64 x.mx] 23)
  have qX := hX; obtain ⟨X0, X1, X2, Xf⟩ := qX
  have qY := hY; obtain ⟨Y0, Y1, Y2, Yf⟩ := qY
  have qC := hC; obtain ⟨C0, C1, C2, Cf⟩ := qC
  go_wp2_with fail
  refine (join_all H3.out _).mono ?_
  rintro e w3 ⟨rfl, hb⟩
  clear X0 X1 X2 Xf Y0 Y1 Y2 Yf C0 C1 C2 Cf
  replace hA := hA.keep hb
  replace hD := hD.keep hb
  replace hC := hC.keep hb
  replace hX := hX.keep hb
  replace hY := hY.keep hb
  replace hB := bthen hB hb
  clear hb
  replace hA := hA.alloc (.cells #[.int .i64 z.s, .int .i64 z.mn, .int .i64 z.mx] 23)
  replace hD := hD.alloc (.cells #[.int .i64 z.s, .int .i64 z.mn, .int .i64 z.mx] 23)
  replace hC := hC.alloc (.cells #[.int .i64 z.s, .int .i64 z.mn, .int .i64 z.mx] 23)
  replace hX := hX.alloc (.cells #[.int .i64 z.s, .int .i64 z.mn, .int .i64 z.mx] 23)
  replace hY := hY.alloc (.cells #[.int .i64 z.s, .int .i64 z.mn, .int .i64 z.mx] 23)
  have hZ := Box3.new w3 23 z.s  z.mn  z.mx
  replace hB := bpush hB (.cells #[.int .i64 z.s, .int .i64 z.mn, .int .i64 z.mx] 23)
  have qD := hD; obtain ⟨D0, D1, D2, Df⟩ := qD
  have qC := hC; obtain ⟨C0, C1, C2, Cf⟩ := qC
  go_wp2_with fail
  refine (join_all H4.out _).mono ?_
  rintro e w4 ⟨rfl, hb⟩
  clear D0 D1 D2 Df C0 C1 C2 Cf
  replace hA := hA.keep hb
  replace hD := hD.keep hb
  replace hC := hC.keep hb
  replace hX := hX.keep hb
  replace hY := hY.keep hb
  replace hZ := hZ.keep hb
  replace hB := bthen hB hb
  clear hb
  replace hA := hA.alloc (.cells #[.int .i64 u.s, .int .i64 u.mn, .int .i64 u.mx] 23)
  replace hD := hD.alloc (.cells #[.int .i64 u.s, .int .i64 u.mn, .int .i64 u.mx] 23)
  replace hC := hC.alloc (.cells #[.int .i64 u.s, .int .i64 u.mn, .int .i64 u.mx] 23)
  replace hX := hX.alloc (.cells #[.int .i64 u.s, .int .i64 u.mn, .int .i64 u.mx] 23)
  replace hY := hY.alloc (.cells #[.int .i64 u.s, .int .i64 u.mn, .int .i64 u.mx] 23)
  replace hZ := hZ.alloc (.cells #[.int .i64 u.s, .int .i64 u.mn, .int .i64 u.mx] 23)
  have hU := Box3.new w4 23 u.s  u.mn  u.mx
  replace hB := bpush hB (.cells #[.int .i64 u.s, .int .i64 u.mn, .int .i64 u.mx] 23)
  have qA := hA; obtain ⟨A0, A1, A2, Af⟩ := qA
  have qU := hU; obtain ⟨U0, U1, U2, Uf⟩ := qU
  go_wp2_with fail
  refine (join_all H5.out _).mono ?_
  rintro e w5 ⟨rfl, hb⟩
  clear A0 A1 A2 Af U0 U1 U2 Uf
  replace hA := hA.keep hb
  replace hD := hD.keep hb
  replace hC := hC.keep hb
  replace hX := hX.keep hb
  replace hY := hY.keep hb
  replace hZ := hZ.keep hb
  replace hU := hU.keep hb
  replace hB := bthen hB hb
  clear hb
  replace hA := hA.alloc (.cells #[.int .i64 v.s, .int .i64 v.mn, .int .i64 v.mx] 23)
  replace hD := hD.alloc (.cells #[.int .i64 v.s, .int .i64 v.mn, .int .i64 v.mx] 23)
  replace hC := hC.alloc (.cells #[.int .i64 v.s, .int .i64 v.mn, .int .i64 v.mx] 23)
  replace hX := hX.alloc (.cells #[.int .i64 v.s, .int .i64 v.mn, .int .i64 v.mx] 23)
  replace hY := hY.alloc (.cells #[.int .i64 v.s, .int .i64 v.mn, .int .i64 v.mx] 23)
  replace hZ := hZ.alloc (.cells #[.int .i64 v.s, .int .i64 v.mn, .int .i64 v.mx] 23)
  replace hU := hU.alloc (.cells #[.int .i64 v.s, .int .i64 v.mn, .int .i64 v.mx] 23)
  have hW := Box3.new w5 23 v.s  v.mn  v.mx
  replace hB := bpush hB (.cells #[.int .i64 v.s, .int .i64 v.mn, .int .i64 v.mx] 23)
  have qX := hX; obtain ⟨x0, x1, x2, xf⟩ := qX
  have qA := hA; obtain ⟨a0, a1, a2, af⟩ := qA
  have qZ := hZ; obtain ⟨z0, z1, z2, zf⟩ := qZ
  have qW := hW; obtain ⟨v0, v1, v2, vf⟩ := qW
  obtain ⟨⟨n, e6⟩, h6⟩ : ∃ p, joinA a ⟨a.mn, a.mn, a.mn⟩ = p := ⟨_, rfl⟩
  have H6 := Lib.hid h6
  clear h6
  have hcases : (¬ e1 = 0) ∨ (e1 = 0 ∧ ¬ e3 = 0) ∨ (e1 = 0 ∧ e3 = 0 ∧ ¬ e4 = 0) ∨ (e1 = 0 ∧ e3 = 0 ∧ e4 = 0 ∧ ¬ e5 = 0) ∨ (e1 = 0 ∧ e3 = 0 ∧ e4 = 0 ∧ e5 = 0 ∧ z = v) := by
    by_cases k1 : e1 = 0
    · by_cases k3 : e3 = 0
      · by_cases k4 : e4 = 0
        · by_cases k5 : e5 = 0
          · subst k1 k3 k4 k5
            exact .inr (.inr (.inr (.inr ⟨rfl, rfl, rfl, rfl, joinA_assoc H1.out H3.out H4.out H5.out⟩)))
          · exact .inr (.inr (.inr (.inl ⟨k1, k3, k4, k5⟩)))
        · exact .inr (.inr (.inl ⟨k1, k3, k4⟩))
      · exact .inr (.inl ⟨k1, k3⟩)
    · exact .inl k1
  clear H1 H2 H3 H4 H5
  cases hr : a.right
  · have HR := Lib.hid hr
    clear hr
    rcases hcases with k | ⟨rfl, k⟩ | ⟨rfl, rfl, k⟩ | ⟨rfl, rfl, rfl, k⟩ | ⟨rfl, rfl, rfl, rfl, rfl⟩
    all_goals
      go_wp2_with fail
      refine (right_any _ _ _ _).mono ?_
      rintro e w6 ⟨rfl, hb⟩
      rw [show rightB a.s a.mn a.mx = false from HR.out]
      replace hB := bthen hB hb
      go_wp2_with fail
      refine (alive_any _).mono ?_
      rintro e w7 ⟨rfl, hb7⟩
      go_wp2
      go_ret
      exact ⟨rfl, bthen hB hb7⟩
  · have HF := Lib.hid (rightB_fit hr)
    have hbd := right_bd hr
    have hn : e6 = 0 → n.s = a.s + a.mn ∧ n.mn = a.mn ∧ n.mx = a.mx ∧ -4611686018427387904 ≤ a.s + a.mn ∧ a.s + a.mn ≤ 4611686018427387904 := by
      intro h; subst h
      have hf := fit1_iff.1 (joinA_fit H6.out)
      obtain ⟨-, -, rfl⟩ := joinA_inv H6.out
      exact ⟨rfl, by simp only []; omega, by simp only []; omega, hf.1, hf.2⟩
    obtain ⟨⟨s1, s2⟩, ⟨m1, m2⟩, -, -⟩ := hbd
    have HR := Lib.hid hr
    have HN := Lib.hid hn
    clear hr hn
    rcases hcases with k | ⟨rfl, k⟩ | ⟨rfl, rfl, k⟩ | ⟨rfl, rfl, rfl, k⟩ | ⟨rfl, rfl, rfl, rfl, rfl⟩
    all_goals
      go_wp2_with fail
      refine (right_any _ _ _ _).mono ?_
      rintro e w6 ⟨rfl, hb⟩
      rw [show rightB a.s a.mn a.mx = true from HR.out]
      clear a0 a1 a2 af x0 x1 x2 xf z0 z1 z2 zf v0 v1 v2 vf
      replace hA := hA.keep hb
      replace hB := bthen hB hb
      clear hb hX hZ hW hD hC hU hY
      have qA := hA; obtain ⟨A0, A1, A2, Af⟩ := qA
      go_wp2_with fail
      refine (one_yes _ _ HF.out).mono ?_
      rintro e w7 ⟨rfl, hb⟩
      clear A0 A1 A2 Af
      replace hA := hA.keep hb
      replace hB := bthen hB hb
      clear hb
      replace hA := hA.alloc (.cells #[.int .i64 a.mn, .int .i64 a.mn, .int .i64 a.mn] 23)
      have hM := Box3.new w7 23 a.mn  a.mn  a.mn
      replace hB := bpush hB (.cells #[.int .i64 a.mn, .int .i64 a.mn, .int .i64 a.mn] 23)
      have qA := hA; obtain ⟨A0, A1, A2, Af⟩ := qA
      have qM := hM; obtain ⟨M0, M1, M2, Mf⟩ := qM
      go_wp2_with fail
      refine (join_all H6.out _).mono ?_
      rintro e w8 ⟨rfl, hb⟩
      clear A0 A1 A2 Af M0 M1 M2 Mf
      replace hA := hA.keep hb
      replace hM := hM.keep hb
      replace hB := bthen hB hb
      clear hb
      replace hA := hA.alloc (.cells #[.int .i64 n.s, .int .i64 n.mn, .int .i64 n.mx] 23)
      replace hM := hM.alloc (.cells #[.int .i64 n.s, .int .i64 n.mn, .int .i64 n.mx] 23)
      have hN := Box3.new w8 23 n.s  n.mn  n.mx
      replace hB := bpush hB (.cells #[.int .i64 n.s, .int .i64 n.mn, .int .i64 n.mx] 23)
      go_wp2_with fail
      refine (alive_any _).mono ?_
      rintro e w9 ⟨rfl, hb⟩
      replace hA := hA.keep hb
      replace hM := hM.keep hb
      replace hN := hN.keep hb
      replace hB := bthen hB hb
      clear hb
      have qA := hA; obtain ⟨A0, A1, A2, Af⟩ := qA
      have qN := hN; obtain ⟨N0, N1, N2, Nf⟩ := qN
      by_cases k6 : e6 = 0
      · subst k6
        obtain ⟨e7, e8, e9, t1, t2⟩ := HN.out rfl
        rw [e7] at N0
        rw [e8] at N1
        rw [e9] at N2
        clear e7 e8 e9
        go_wp2
        go_ret
        exact ⟨rfl, hB⟩
      · go_wp2
        go_ret
        exact ⟨rfl, hB⟩
end Go.Proofs.Ytdgaemgilcbdiaa
