/- down (52). -/
import Derived.Test.YtbccjkjibffbkaaHF
namespace Go.Proofs.Ytbccjkjibffbkaa
open Go.RowKit Go.Shelf
set_option linter.unusedSimpArgs false
set_option linter.unusedVariables false
/-- The first m stand in some order; those behind stay. -/
structure HqSt (w0 ws : World) (P n m : Nat) (f f' : Nat → Cu) (w : World) : Prop where
  st : HeapSt w0 ws P n f' w
  perm : (seqF f' m).Perm (seqF f m)
  rest : ∀ k, m ≤ k → f' k = f k
theorem HqSt.next {w0 ws w w' : World} {P n m : Nat} {f f' : Nat → Cu} (h : HqSt w0 ws P n m f f' w) (s : HeapSt w0 ws P n f' w') : HqSt w0 ws P n m f f' w' := ⟨s, h.perm, h.rest⟩
theorem HqSt.swap {w0 ws w w' : World} {P n m i j : Nat} {f f' : Nat → Cu} (h : HqSt w0 ws P n m f f' w) (s : HeapSt w0 ws P n (swapF f' i j) w') (hi : i < m) (hj : j < m) : HqSt w0 ws P n m f (swapF f' i j) w' :=
  ⟨s, (swap_perm hi hj).trans h.perm, fun k hk => by rw [swap_o f' (by omega) (by omega)]; exact h.rest k hk⟩
def DownPost (w0 ws : World) (P n m : Nat) (f : Nat → Cu) (e : Ending) (w' : World) : Prop := ∃ b : Bool, e = .returned (.bool b) ∧ ∃ f', HqSt w0 ws P n m f f' w' ∧ HeapOk ltU m f'
theorem low_kids {m k c1 c2 j : Nat} {f : Nat → Cu} (h1 : c1 = 2 * k + 1) (h2 : c2 = 2 * k + 2) (hF : ∀ x, 0 < x → x < m → (x - 1) / 2 = k → ltU (f x) (f j) = false) (hr : ltU (f j) (f k) = false) :
    ∀ x, 0 < x → x < m → (x - 1) / 2 = k → ltU (f x) (f k) = false := fun x x0 xm xe => ltU_ord.trans _ _ _ hr (hF x x0 xm xe)
theorem kids_of {m k c1 c2 j : Nat} {f : Nat → Cu} (h1 : c1 = 2 * k + 1) (h2 : c2 = 2 * k + 2) (ha : ltU (f c1) (f j) = false) (hb : c2 < m → ltU (f c2) (f j) = false) : ∀ x, 0 < x → x < m → (x - 1) / 2 = k → ltU (f x) (f j) = false := by
  intro x x0 xm xe
  rcases (show x = c1 ∨ x = c2 by omega) with rfl | rfl
  · exact ha
  · exact hb xm
theorem lt_self (x : Cu) : ltU x x = false := by
  cases h : ltU x x
  · rfl
  · have := ltU_ord.asym _ _ h
    rw [h] at this
    exact this
set_option maxRecDepth 100000 in
set_option maxHeartbeats 16000000 in
theorem down_u (w0 ws : World) (P n m i : Nat) (f : Nat → Cu) (w : World) (h : HeapSt w0 ws P n f w) (hu : DownOk ltU m f i) (hm : m ≤ n) (hi : i < m ∨ (i = 0 ∧ m = 0)) : Calls Try.prog 52 #[hpI P, .int .i64 i, .int .i64 m] w (DownPost w0 ws P n m f) := by
  have hfew := h.few
  have HH := Lib.hid (show HqSt w0 ws P n m f f w from ⟨h, List.Perm.refl _, fun _ _ => rfl⟩)
  have HU := Lib.hid hu
  unfold hpI
  clear h hu
  have nl := n_less ⟨P, 0, none⟩
  have ns := n_swap ⟨P, 0, none⟩
  go_enter Try.func52, Try.ntmps52
  go_wp2_with fail
  go_loopw [7] (fun v7 wr => ∃ (k : Nat) (f' : Nat → Cu), (k < m ∨ (k = 0 ∧ m = 0)) ∧ v7 = .int .i64 k ∧ Hid (HqSt w0 ws P n m f f' wr) ∧ Hid (DownOk ltU m f' k)) (fun i _ => m - (intOf i).toNat)
  case atStart => exact ⟨i, f, hi, rfl, HH, HU⟩
  case round =>
    clear HH HU
    obtain ⟨k, f', hk, rfl, HH, HU⟩ := hrel
    obtain ⟨c1, hc1⟩ : ∃ c, c = 2 * k + 1 := ⟨_, rfl⟩
    obtain ⟨c2, hc2⟩ : ∃ c, c = 2 * k + 2 := ⟨_, rfl⟩
    have hI1 : 2 * (k : Int) + 1 = (c1 : Int) := by omega
    have hI2 : (c1 : Int) + 1 = (c2 : Int) := by omega
    have hn0 : ¬ (c1 : Int) < 0 := by omega
    by_cases hm1 : c1 < m
    · have hm1a : (c1 : Int) < (m : Int) := by omega
      have hm1b : ¬ (m : Int) ≤ (c1 : Int) := by omega
      have hkm : k < m := by omega
      by_cases hm2 : c2 < m
      · have hm2a : (c2 : Int) < (m : Int) := by omega
        obtain ⟨g, cap, hP, ho⟩ := heap_row' HH.out.st (by omega)
        have ml := m_less P _ wr (show wr.cell? ⟨P, 0, none⟩ = some (.slice (some ⟨g, 0, none⟩) n cap) by rw [hP.cell 0]; rfl)
        have HC := Lib.hid (less_h HH.out.st ho (show c2 < n by omega) (show c1 < n by omega))
        obtain ⟨r, hr⟩ : ∃ r, r = ltU (f' c2) (f' c1) := ⟨_, rfl⟩
        rw [← hr] at HC
        clear hP ho
        have HE1 := Lib.hid hc1
        have HE2 := Lib.hid hc2
        cases r
        · have HF := Lib.hid (kids_of (m := m) hc1 hc2 (lt_self _) (fun _ => hr.symm))
          clear hr hc1 hc2
          go_upto_region 8 with (go_at_call 79; refine HC.out.mono ?_; rintro e w2 ⟨rfl, hb⟩; have HB2 := Lib.hid hb; clear hb)
          have s8 := HH.out.st.more HB2.out
          obtain ⟨g8, cap8, hP8, ho8⟩ := heap_row' s8 (by have q1 := HE1.out; have q2 := HE2.out; omega)
          have ml8 := m_less P _ w2 (show w2.cell? ⟨P, 0, none⟩ = some (.slice (some ⟨g8, 0, none⟩) n cap8) by rw [hP8.cell 0]; rfl)
          have HC8 := Lib.hid (less_h s8 ho8 (show c1 < n by have q1 := HE1.out; have q2 := HE2.out; omega) (show k < n by have q1 := HE1.out; have q2 := HE2.out; omega))
          obtain ⟨r8, hr8⟩ : ∃ r, r = ltU (f' c1) (f' k) := ⟨_, rfl⟩
          rw [← hr8] at HC8
          have HR8 := Lib.hid hr8
          have HS8 := Lib.hid s8
          clear s8 hP8 ho8 hr8
          cases r8
          · go_wp2_with (go_at_call 79; refine HC8.out.mono ?_; rintro e w9 ⟨rfl, hb⟩; have HB9 := Lib.hid hb; clear hb)
            go_ret
            exact ⟨_, rfl, f', HH.out.next (HS8.out.more HB9.out), down_done HU.out (low_kids HE1.out HE2.out HF.out HR8.out.symm)⟩
          · go_upto_region 9 with (go_at_call 79; refine HC8.out.mono ?_; rintro e w9 ⟨rfl, hb⟩; have HB9 := Lib.hid hb; clear hb)
            have s9 := HS8.out.more HB9.out
            obtain ⟨g9, cap9, hP9, ho9⟩ := heap_row' s9 (by have q1 := HE1.out; have q2 := HE2.out; omega)
            have ms9 := m_swap P _ w9 (show w9.cell? ⟨P, 0, none⟩ = some (.slice (some ⟨g9, 0, none⟩) n cap9) by rw [hP9.cell 0]; rfl)
            have HS9 := Lib.hid (swap_h s9 hP9 ho9 (show k < n by have q1 := HE1.out; have q2 := HE2.out; omega) (show c1 < n by have q1 := HE1.out; have q2 := HE2.out; omega))
            clear s9 hP9 ho9
            go_wp2_with (go_at_call 82; refine HS9.out.mono ?_; rintro e w10 ⟨rfl, hb⟩; have HS10 := Lib.hid hb; clear hb)
            go_roundw
            case rel => exact ⟨c1, swapF f' k c1, by have q1 := HE1.out; have q2 := HE2.out; omega, rfl, Lib.hid (HH.out.swap HS10.out (by have q1 := HE1.out; have q2 := HE2.out; omega) (by have q1 := HE1.out; have q2 := HE2.out; omega)), Lib.hid (down_step ltU_ord HU.out (by have q1 := HE1.out; have q2 := HE2.out; omega) (by have q1 := HE1.out; have q2 := HE2.out; omega) (by have q1 := HE1.out; have q2 := HE2.out; omega) HR8.out.symm HF.out)⟩
            case measure => have q1 := HE1.out; have q2 := HE2.out; simp [intOf]; omega
        · have HF := Lib.hid (kids_of (m := m) (f := f') (j := c2) hc1 hc2 (ltU_ord.asym _ _ hr.symm) (fun _ => lt_self _))
          clear hr hc1 hc2
          go_upto_region 8 with (go_at_call 79; refine HC.out.mono ?_; rintro e w2 ⟨rfl, hb⟩; have HB2 := Lib.hid hb; clear hb)
          have s8 := HH.out.st.more HB2.out
          obtain ⟨g8, cap8, hP8, ho8⟩ := heap_row' s8 (by have q1 := HE1.out; have q2 := HE2.out; omega)
          have ml8 := m_less P _ w2 (show w2.cell? ⟨P, 0, none⟩ = some (.slice (some ⟨g8, 0, none⟩) n cap8) by rw [hP8.cell 0]; rfl)
          have HC8 := Lib.hid (less_h s8 ho8 (show c2 < n by have q1 := HE1.out; have q2 := HE2.out; omega) (show k < n by have q1 := HE1.out; have q2 := HE2.out; omega))
          obtain ⟨r8, hr8⟩ : ∃ r, r = ltU (f' c2) (f' k) := ⟨_, rfl⟩
          rw [← hr8] at HC8
          have HR8 := Lib.hid hr8
          have HS8 := Lib.hid s8
          clear s8 hP8 ho8 hr8
          cases r8
          · go_wp2_with (go_at_call 79; refine HC8.out.mono ?_; rintro e w9 ⟨rfl, hb⟩; have HB9 := Lib.hid hb; clear hb)
            go_ret
            exact ⟨_, rfl, f', HH.out.next (HS8.out.more HB9.out), down_done HU.out (low_kids HE1.out HE2.out HF.out HR8.out.symm)⟩
          · go_upto_region 9 with (go_at_call 79; refine HC8.out.mono ?_; rintro e w9 ⟨rfl, hb⟩; have HB9 := Lib.hid hb; clear hb)
            have s9 := HS8.out.more HB9.out
            obtain ⟨g9, cap9, hP9, ho9⟩ := heap_row' s9 (by have q1 := HE1.out; have q2 := HE2.out; omega)
            have ms9 := m_swap P _ w9 (show w9.cell? ⟨P, 0, none⟩ = some (.slice (some ⟨g9, 0, none⟩) n cap9) by rw [hP9.cell 0]; rfl)
            have HS9 := Lib.hid (swap_h s9 hP9 ho9 (show k < n by have q1 := HE1.out; have q2 := HE2.out; omega) (show c2 < n by have q1 := HE1.out; have q2 := HE2.out; omega))
            clear s9 hP9 ho9
            go_wp2_with (go_at_call 82; refine HS9.out.mono ?_; rintro e w10 ⟨rfl, hb⟩; have HS10 := Lib.hid hb; clear hb)
            go_roundw
            case rel => exact ⟨c2, swapF f' k c2, by have q1 := HE1.out; have q2 := HE2.out; omega, rfl, Lib.hid (HH.out.swap HS10.out (by have q1 := HE1.out; have q2 := HE2.out; omega) (by have q1 := HE1.out; have q2 := HE2.out; omega)), Lib.hid (down_step ltU_ord HU.out (by have q1 := HE1.out; have q2 := HE2.out; omega) (by have q1 := HE1.out; have q2 := HE2.out; omega) (by have q1 := HE1.out; have q2 := HE2.out; omega) HR8.out.symm HF.out)⟩
            case measure => have q1 := HE1.out; have q2 := HE2.out; simp [intOf]; omega
      · have hm2a : ¬ (c2 : Int) < (m : Int) := by omega
        have HE1 := Lib.hid hc1
        have HE2 := Lib.hid hc2
        have HF := Lib.hid (kids_of (m := m) (f := f') hc1 hc2 (lt_self _) (fun h => absurd h hm2))
        clear hc1 hc2
        go_upto_region 8 with fail
        have s8 := HH.out.st
        obtain ⟨g8, cap8, hP8, ho8⟩ := heap_row' s8 (by have q1 := HE1.out; have q2 := HE2.out; omega)
        have ml8 := m_less P _ wr (show wr.cell? ⟨P, 0, none⟩ = some (.slice (some ⟨g8, 0, none⟩) n cap8) by rw [hP8.cell 0]; rfl)
        have HC8 := Lib.hid (less_h s8 ho8 (show c1 < n by have q1 := HE1.out; have q2 := HE2.out; omega) (show k < n by have q1 := HE1.out; have q2 := HE2.out; omega))
        obtain ⟨r8, hr8⟩ : ∃ r, r = ltU (f' c1) (f' k) := ⟨_, rfl⟩
        rw [← hr8] at HC8
        have HR8 := Lib.hid hr8
        have HS8 := Lib.hid s8
        clear s8 hP8 ho8 hr8
        cases r8
        · go_wp2_with (go_at_call 79; refine HC8.out.mono ?_; rintro e w9 ⟨rfl, hb⟩; have HB9 := Lib.hid hb; clear hb)
          go_ret
          exact ⟨_, rfl, f', HH.out.next (HS8.out.more HB9.out), down_done HU.out (low_kids HE1.out HE2.out HF.out HR8.out.symm)⟩
        · go_upto_region 9 with (go_at_call 79; refine HC8.out.mono ?_; rintro e w9 ⟨rfl, hb⟩; have HB9 := Lib.hid hb; clear hb)
          have s9 := HS8.out.more HB9.out
          obtain ⟨g9, cap9, hP9, ho9⟩ := heap_row' s9 (by have q1 := HE1.out; have q2 := HE2.out; omega)
          have ms9 := m_swap P _ w9 (show w9.cell? ⟨P, 0, none⟩ = some (.slice (some ⟨g9, 0, none⟩) n cap9) by rw [hP9.cell 0]; rfl)
          have HS9 := Lib.hid (swap_h s9 hP9 ho9 (show k < n by have q1 := HE1.out; have q2 := HE2.out; omega) (show c1 < n by have q1 := HE1.out; have q2 := HE2.out; omega))
          clear s9 hP9 ho9
          go_wp2_with (go_at_call 82; refine HS9.out.mono ?_; rintro e w10 ⟨rfl, hb⟩; have HS10 := Lib.hid hb; clear hb)
          go_roundw
          case rel => exact ⟨c1, swapF f' k c1, by have q1 := HE1.out; have q2 := HE2.out; omega, rfl, Lib.hid (HH.out.swap HS10.out (by have q1 := HE1.out; have q2 := HE2.out; omega) (by have q1 := HE1.out; have q2 := HE2.out; omega)), Lib.hid (down_step ltU_ord HU.out (by have q1 := HE1.out; have q2 := HE2.out; omega) (by have q1 := HE1.out; have q2 := HE2.out; omega) (by have q1 := HE1.out; have q2 := HE2.out; omega) HR8.out.symm HF.out)⟩
          case measure => have q1 := HE1.out; have q2 := HE2.out; simp [intOf]; omega
    · have hm1a : ¬ (c1 : Int) < (m : Int) := by omega
      have hm1b : (m : Int) ≤ (c1 : Int) := by omega
      have HD := Lib.hid (show ∀ x, 0 < x → x < m → (x - 1) / 2 = k → ltU (f' x) (f' k) = false from fun x x0 xm xe => by omega)
      clear hc1 hc2
      go_wp2
      go_ret
      exact ⟨_, rfl, f', HH.out, down_done HU.out HD.out⟩
end Go.Proofs.Ytbccjkjibffbkaa
