/- The law BucketWhole: its walk. -/
import Derived.Test.YtmjjlolbdjjepaaI
namespace Go.Proofs.Ytmjjlolbdjjepaa
open Go.RowKit
set_option linter.unusedSimpArgs false
set_option linter.unusedVariables false
theorem flr_same {x y g : Int} (hg : 1 ≤ g) (h1 : flr x g ≤ y) (h2 : y < flr x g + g) : flr y g = flr x g := by
  obtain ⟨q, hq⟩ : ∃ q, q = x / g := ⟨_, rfl⟩
  have e := flr_mul x g
  rw [← hq] at e
  obtain ⟨r, hr⟩ : ∃ r, r = y - flr x g := ⟨_, rfl⟩
  have hy : y % g = r := by
    rw [show y = r + g * q by omega, Int.add_mul_emod_self_left, Int.emod_eq_of_lt (by omega) (by omega)]
  conv => lhs; unfold flr
  rw [hy]; omega
theorem al_pos {g t f : Int} (hg : okGran g) {i : Nat} (h : pos g t f (i + 1) < t) : alB (pos g t f (i + 1)) g = true := by
  have e : pos g t f (i + 1) = flr (pos g t f i) g + g := by
    show nxt g t (pos g t f i) = _
    have h' : nxt g t (pos g t f i) < t := h
    unfold nxt at h' ⊢; omega
  rw [e, flr_mul, show g * (pos g t f i / g) + g = g * (pos g t f i / g + 1) by rw [Int.mul_add, Int.mul_one]]
  exact al_mul hg
theorem pos_bd {g t f : Int} (hg : 1 ≤ g) {k : Nat} : ∀ i, i ≤ k → (∀ j, j < k → pos g t f j < t) → f ≤ pos g t f i ∧ (0 < i → pos g t f i ≤ t) := by
  intro i
  induction i with
  | zero => intro _ _; exact ⟨by simp [pos], fun h => by omega⟩
  | succ i ih =>
    intro h hj
    have h1 := ih (by omega) hj
    have h2 := nxt_bd (t := t) hg (hj i (by omega))
    have h3 : pos g t f (i + 1) = nxt g t (pos g t f i) := rfl
    rw [h3]; omega
theorem quiet_al {x g : Int} {w : World} {n : Nat} (h : alB x g = true) : Calls Try.prog 13 #[.int .i64 x, .int .i64 g] (w.drewN n) fun e w'' => e = .returned (.bool true) ∧ ∃ m, w'' = w.drewN m :=
  quiet_left ((al_any x g (w.drewN n)).mono fun e w' hh => ⟨by rw [hh.1, h], hh.2⟩)
set_option maxRecDepth 100000 in
set_option maxHeartbeats 4000000 in
theorem whole_any (f t g : Int) (w : World) : Calls Try.prog 6 #[.int .i64 f, .int .i64 t, .int .i64 g] w fun e w' => e = .returned (.bool true) ∧ Below w.heap.size w w' := by
  by_cases hok : okGran g ∧ okTime f ∧ okTime t
  · obtain ⟨hg, hf, ht⟩ := hok
    have HG := Lib.hid hg
    have HF := Lib.hid hf
    have HT := Lib.hid ht
    obtain ⟨g1, g2⟩ := hg
    clear hf ht
    go_enter Try.func6, Try.ntmps6
    go_wp2_with fail
    refine (cut_good f t g _ HG.out HF.out HT.out).mono ?_
    rintro e w1 ⟨k, hk, v, rfl, hown, hnil, hB⟩
    obtain ⟨A, c, rfl, hkc, hrow⟩ := own_row2 hown hnil
    have HE := Lib.hid hk
    have hk3 : k ≤ 1000 := hk.1
    have HB := Lib.hid hB
    have HR := Lib.hid hrow
    clear hk hown hnil hB hrow
    go_wp2_with fail
    go_loopw [9, 10] (fun a i wr => ∃ (j : Nat) (z : Int), j ≤ k ∧ i = .int .i64 j ∧ a = .int .i64 z ∧ Hid (z = pos g t f j) ∧ Hid (Below w1.heap.size w1 wr)) (fun _ i _ => k - (intOf i).toNat)
    case atStart => exact ⟨0, f, Nat.zero_le _, rfl, rfl, Lib.hid rfl, Lib.hid (Below.refl _ _)⟩
    case round =>
      obtain ⟨j, z, hj, rfl, rfl, HZ, HBW⟩ := hrel
      by_cases hlt : j < k
      · obtain ⟨b, off, hA1, hc1, hc2⟩ := (HR.out.keep (Nat.le_refl _) HBW.out).at2 (a := posP g t f) hlt
        obtain ⟨E, hE⟩ : ∃ E, E = pos g t f (j + 1) := ⟨_, rfl⟩
        have hp1 : (posP g t f j).1 = z := HZ.out.symm
        have hp2 : (posP g t f j).2 = E := hE.symm
        rw [hp1] at hc1
        rw [hp2] at hc2
        have hzt : z < t := by rw [HZ.out]; exact HE.out.2.2 j hlt
        have hEn : E = nxt g t z := by rw [hE, HZ.out]; rfl
        have hnb := nxt_bd g1 hzt
        have hfb := flr_bd (t := z) g1
        have hbd := pos_bd (t := t) (f := f) g1 j hj HE.out.2.2
        have hzf : f ≤ z := by rw [HZ.out]; exact hbd.1
        obtain ⟨F, hF⟩ : ∃ F, F = flr z g := ⟨_, rfl⟩
        have hEle : E ≤ F + g := by rw [hEn, hF]; unfold nxt; omega
        rw [← hEn] at hnb
        rw [← hF] at hfb
        obtain ⟨hn1, hn2⟩ := hnb
        obtain ⟨hf1, hf2⟩ := hfb
        have HFF := Lib.hid hF
        have HFE := Lib.hid (show flr (E - 1) g = F by rw [hF]; exact flr_same g1 (by omega) (by omega))
        have hf0 := HF.out
        have ht0 := HT.out
        have HOZ := Lib.hid (show okBoth z g from ⟨⟨g1, g2⟩, ⟨by have := hf0.1; omega, by have := ht0.2; omega⟩⟩)
        have HOE := Lib.hid (show okBoth (E - 1) g from ⟨⟨g1, g2⟩, ⟨by have := hf0.1; omega, by have := ht0.2; omega⟩⟩)
        have hz1 : -1099511627776 ≤ z := by have := hf0.1; omega
        have hE1 : E ≤ 1099511627776 := by have := ht0.2; omega
        have HEE := Lib.hid hE
        have hw1 : IntKind.i64.wrap (E - z) = E - z := IntWalk.i64_in _ (by omega)
        have hd1 : decide (E ≤ z) = false := by simp; omega
        have hd2 : decide (g < E - z) = false := by simp; omega
        have hj0 : (0 : Int) ≤ (j : Int) := by omega
        have hj1 : (j : Int) < (k : Int) := by omega
        have HAL := Lib.hid (show 0 < j → alB z g = true by
          intro h
          obtain ⟨i, rfl⟩ : ∃ i, j = i + 1 := ⟨j - 1, by omega⟩
          rw [HZ.out]
          exact al_pos ⟨g1, g2⟩ (by rw [← HZ.out]; exact hzt))
        clear hE hp1 hp2 hEn hbd hF hf0 ht0 hzf
        subst hA1
        by_cases hjz : j = 0
        · have hdj : decide ((0 : Int) < (j : Int)) = false := by simp; omega
          have hdn : decide (0 < j) = false := by simp; omega
          clear hjz
          go_wp2_with fail
          refine (Floor_good z g _ HOZ.out).mono ?_
          rintro e w2 ⟨rfl, rfl⟩
          rw [← HFF.out]
          go_wp2_with fail
          refine (Floor_good (E - 1) g _ HOE.out).mono ?_
          rintro e w2 ⟨rfl, rfl⟩
          rw [HFE.out]
          go_wp2_with fail
          go_quiet (fail)
          go_wp2_with fail
          go_roundw
          case rel => exact ⟨j + 1, E, by omega, by go_num, rfl, HEE, Lib.hid (below_drewN HBW.out _)⟩
          case measure => simp [intOf]; omega
        · have hdj : decide ((0 : Int) < (j : Int)) = true := by simp; omega
          have hdn : decide (0 < j) = true := by simp; omega
          have hjp : 0 < j := by omega
          clear hjz
          go_wp2_with fail
          refine (Floor_good z g _ HOZ.out).mono ?_
          rintro e w2 ⟨rfl, rfl⟩
          rw [← HFF.out]
          go_wp2_with fail
          refine (Floor_good (E - 1) g _ HOE.out).mono ?_
          rintro e w2 ⟨rfl, rfl⟩
          rw [HFE.out]
          go_wp2_with fail
          go_quiet ((go_at_call 13; exact quiet_al (HAL.out hjp)))
          go_wp2_with fail
          go_roundw
          case rel => exact ⟨j + 1, E, by omega, by go_num, rfl, HEE, Lib.hid (below_drewN HBW.out _)⟩
          case measure => simp [intOf]; omega
      · have hj0 : (0 : Int) ≤ (j : Int) := by omega
        have hj1 : ¬ (j : Int) < (k : Int) := by omega
        have hjk : j = k := by omega
        subst hjk
        obtain ⟨he1, he2, he3⟩ := HE.out
        rcases Nat.eq_zero_or_pos j with h0 | h0
        · have hz : z = f := by rw [HZ.out, h0]; rfl
          have htf : t ≤ f := by
            rcases he2 with h | h
            · omega
            · rw [← HZ.out] at h; omega
          have hd1 : decide ((j : Int) = 1000) = false := by simp; omega
          have hd2 : decide ((0 : Int) < (j : Int)) = false := by simp; omega
          have hd4 : decide (0 < j) = false := by simp; omega
          have hd3 : decide (f < t) = false := by simp; omega
          clear he1 he2 he3
          subst hz
          go_wp2_with fail
          refine (alive_any wr).mono ?_
          rintro e w3 ⟨rfl, hB3⟩
          have HBF := Lib.hid (bthen HB.out (bthen HBW.out hB3))
          clear hB3
          go_wp2_with fail
          go_ret
          exact ⟨rfl, HBF.out⟩
        · have hft : f < t := he3 0 h0
          have hd3 : decide (f < t) = true := by simp; omega
          have hd2 : decide ((0 : Int) < (j : Int)) = true := by simp; omega
          have hd4 : decide (0 < j) = true := by simp; omega
          by_cases hm : j = 1000
          · have hd1 : decide ((j : Int) = 1000) = true := by simp; omega
            have hd5 : decide (j = 1000) = true := by simp; omega
            clear he1 he2 he3
            go_wp2_with fail
            refine (alive_any wr).mono ?_
            rintro e w3 ⟨rfl, hB3⟩
            have HBF := Lib.hid (bthen HB.out (bthen HBW.out hB3))
            clear hB3
            go_wp2_with fail
            all_goals first | (exfalso; omega) | (go_ret; exact ⟨rfl, HBF.out⟩)
          · have hz : z = t := by
              have h1 := (pos_bd (t := t) (f := f) g1 j (Nat.le_refl _) he3).2 h0
              rcases he2 with h | h
              · omega
              · rw [← HZ.out] at h h1; omega
            have hd1 : decide ((j : Int) = 1000) = false := by simp; omega
            have hd5 : decide (j = 1000) = false := by simp; omega
            clear he1 he2 he3
            subst hz
            go_wp2_with fail
            refine (alive_any wr).mono ?_
            rintro e w3 ⟨rfl, hB3⟩
            have HBF := Lib.hid (bthen HB.out (bthen HBW.out hB3))
            clear hB3
            go_wp2_with fail
            all_goals first | (exfalso; omega) | (go_ret; exact ⟨rfl, HBF.out⟩)
  · have HN := Lib.hid hok
    clear hok
    go_enter Try.func6, Try.ntmps6
    go_wp2_with fail
    refine (cut_bad f t g _ HN.out).mono ?_
    rintro e w1 ⟨rfl, hB⟩
    have HB := Lib.hid hB
    clear hB
    go_wp2_with fail
    refine (alive_any w1).mono ?_
    rintro e w3 ⟨rfl, hB3⟩
    have HBF := Lib.hid (bthen HB.out hB3)
    clear hB3
    go_wp2_with fail
    go_ret
    exact ⟨rfl, HBF.out⟩
end Go.Proofs.Ytmjjlolbdjjepaa
