/- Floor, Ceil, Aligned, Coarser, and the document's. -/
import Derived.Test.YtmjjlolbdjjepaaB
namespace Go.Proofs.Ytmjjlolbdjjepaa
open Go.RowKit
set_option linter.unusedSimpArgs false
set_option linter.unusedVariables false
def okBoth (t g : Int) : Prop := okGran g ∧ okTime t
def clg (t g : Int) : Int := flr (t + g - 1) g
theorem clg_eq {t g : Int} (hg : 1 ≤ g) : clg t g = if flr t g < t then flr t g + g else flr t g := by
  have h1 := Int.emod_nonneg t (show g ≠ 0 by omega)
  have h2 := Int.emod_lt_of_pos t (show 0 < g by omega)
  have e := Int.emod_add_mul_ediv t g
  obtain ⟨q, hq⟩ : ∃ q, q = t / g := ⟨_, rfl⟩
  obtain ⟨r, hr⟩ : ∃ r, r = t % g := ⟨_, rfl⟩
  rw [← hq, ← hr] at e
  unfold clg flr
  rw [← hr] at h1 h2 ⊢
  by_cases h0 : r = 0
  · have e2 : (t + g - 1) % g = g - 1 := by
      rw [show t + g - 1 = (g - 1) + g * q by omega, Int.add_mul_emod_self_left, Int.emod_eq_of_lt (by omega) (by omega)]
    rw [e2, if_neg (by omega)]; omega
  · have e2 : (t + g - 1) % g = r - 1 := by
      rw [show t + g - 1 = (r - 1) + g * (q + 1) by rw [Int.mul_add]; omega, Int.add_mul_emod_self_left, Int.emod_eq_of_lt (by omega) (by omega)]
    rw [e2, if_pos (by omega)]; omega
set_option maxHeartbeats 400000 in
theorem Floor_good (t g : Int) (w : World) (h : okBoth t g) : Calls Try.prog 8 #[.int .i64 t, .int .i64 g] w fun e w' => e = .returned (.tuple #[.int .i64 (flr t g), .int .i64 0]) ∧ w = w' := by
  have HG := Lib.hid h.1
  have HT := Lib.hid h.2
  clear h
  go_enter Try.func8, Try.ntmps8
  go_wp2_with (first | (go_at_call 17; refine (right_yes _ _ HG.out).mono ?_; rintro e w1 ⟨rfl, rfl⟩) | (go_at_call 22; refine (time_yes _ _ HT.out).mono ?_; rintro e w1 ⟨rfl, rfl⟩) | (go_at_call 23; refine (floor_any _ _ _ HG.out.1 HG.out.2 (by have := HT.out.1; omega) (by have := HT.out.2; omega)).mono ?_; rintro e w1 ⟨rfl, rfl⟩))
  go_ret2
  exact ⟨rfl, rfl⟩
theorem Floor_bad (t g : Int) (w : World) (h : ¬ okBoth t g) : Calls Try.prog 8 #[.int .i64 t, .int .i64 g] w fun e w' => e = .returned (.tuple #[.int .i64 0, .int .i64 111]) ∧ w = w' := by
  by_cases hg : okGran g
  · have HT := Lib.hid (fun ht => h ⟨hg, ht⟩ : ¬ okTime t)
    have HG := Lib.hid hg
    clear h hg
    go_enter Try.func8, Try.ntmps8
    go_wp2_with (first | (go_at_call 17; refine (right_yes _ _ HG.out).mono ?_; rintro e w1 ⟨rfl, rfl⟩) | (go_at_call 22; refine (time_no _ _ HT.out).mono ?_; rintro e w1 ⟨rfl, rfl⟩))
    go_ret2
    exact ⟨rfl, rfl⟩
  · have HG := Lib.hid hg
    clear h hg
    go_enter Try.func8, Try.ntmps8
    go_wp2_with (first | (go_at_call 17; refine (right_no _ _ HG.out).mono ?_; rintro e w1 ⟨rfl, rfl⟩))
    go_ret2
    exact ⟨rfl, rfl⟩
set_option maxHeartbeats 400000 in
theorem rFloor_good (t g : Int) (w : World) (h : okBoth t g) : Calls Try.prog 9 #[.int .i64 t, .int .i64 g] w fun e w' => e = .returned (.tuple #[.int .i64 (flr t g), .int .i64 0]) ∧ w = w' := by
  obtain ⟨⟨h1, h2⟩, ⟨h3, h4⟩⟩ := h
  obtain ⟨b1, b2, b3, b4, b5⟩ := tmod_ways (t := t) h1
  obtain ⟨P, hP⟩ : ∃ P, t.tmod g = P := ⟨_, rfl⟩
  rw [hP] at b1 b2 b3 b4 b5
  clear hP
  have hq1 : -1099511627776 ≤ t.tdiv g ∧ t.tdiv g ≤ 1099511627776 := by
    have e1 : (t.tdiv g).natAbs = t.natAbs / g.natAbs := Int.natAbs_tdiv t g
    have e2 : t.natAbs / g.natAbs ≤ t.natAbs := Nat.div_le_self _ _
    omega
  obtain ⟨hq1, hq2⟩ := hq1
  have hm1 : -1099512676352 ≤ t.tdiv g * g := by rw [b5]; omega
  have hm2 : t.tdiv g * g ≤ 1099512676352 := by rw [b5]; omega
  have HF := Lib.hid (show okGran g ∧ okTime t from ⟨⟨h1, h2⟩, ⟨h3, h4⟩⟩)
  by_cases hn : P < 0
  · have HX := Lib.hid (show t.tdiv g * g - g = flr t g by unfold flr; rw [b4 hn, b5]; omega)
    have hgt : t < t.tdiv g * g := by rw [b5]; omega
    clear b1 b2 b3 b4 b5
    go_enter Try.func9, Try.ntmps9
    go_wp2_with (go_at_call 24; refine (fits_yes _ _ _ HF.out.1 HF.out.2).mono ?_; rintro e w1 ⟨rfl, rfl⟩)
    go_ret2
    exact ⟨by rw [← HX.out]; rfl, rfl⟩
  · have HX := Lib.hid (show t.tdiv g * g = flr t g by unfold flr; rw [b3 (by omega), b5])
    have hgt : t.tdiv g * g ≤ t := by rw [b5]; omega
    clear b1 b2 b3 b4 b5
    go_enter Try.func9, Try.ntmps9
    go_wp2_with (go_at_call 24; refine (fits_yes _ _ _ HF.out.1 HF.out.2).mono ?_; rintro e w1 ⟨rfl, rfl⟩)
    go_ret2
    exact ⟨by rw [← HX.out]; rfl, rfl⟩
theorem rFloor_bad (t g : Int) (w : World) (h : ¬ okBoth t g) : Calls Try.prog 9 #[.int .i64 t, .int .i64 g] w fun e w' => e = .returned (.tuple #[.int .i64 0, .int .i64 111]) ∧ w = w' := by
  have H := Lib.hid h
  clear h
  go_enter Try.func9, Try.ntmps9
  go_wp2_with (go_at_call 24; refine (fits_no _ _ _ H.out).mono ?_; rintro e w1 ⟨rfl, rfl⟩)
  go_ret2
  exact ⟨rfl, rfl⟩
set_option maxHeartbeats 400000 in
theorem Ceil_good (t g : Int) (w : World) (h : okBoth t g) : Calls Try.prog 10 #[.int .i64 t, .int .i64 g] w fun e w' => e = .returned (.tuple #[.int .i64 (clg t g), .int .i64 0]) ∧ w = w' := by
  obtain ⟨⟨h1, h2⟩, ⟨h3, h4⟩⟩ := h
  have HG := Lib.hid (show okGran g from ⟨h1, h2⟩)
  have HT := Lib.hid (show okTime t from ⟨h3, h4⟩)
  go_enter Try.func10, Try.ntmps10
  go_wp2_with (first | (go_at_call 17; refine (right_yes _ _ HG.out).mono ?_; rintro e w1 ⟨rfl, rfl⟩) | (go_at_call 22; refine (time_yes _ _ HT.out).mono ?_; rintro e w1 ⟨rfl, rfl⟩) | (go_at_call 23; refine (floor_any (t + g - 1) _ _ h1 h2 (by omega) (by omega)).mono ?_; rintro e w1 ⟨rfl, rfl⟩))
  go_ret2
  exact ⟨rfl, rfl⟩
theorem Ceil_bad (t g : Int) (w : World) (h : ¬ okBoth t g) : Calls Try.prog 10 #[.int .i64 t, .int .i64 g] w fun e w' => e = .returned (.tuple #[.int .i64 0, .int .i64 111]) ∧ w = w' := by
  by_cases hg : okGran g
  · have HT := Lib.hid (fun ht => h ⟨hg, ht⟩ : ¬ okTime t)
    have HG := Lib.hid hg
    clear h hg
    go_enter Try.func10, Try.ntmps10
    go_wp2_with (first | (go_at_call 17; refine (right_yes _ _ HG.out).mono ?_; rintro e w1 ⟨rfl, rfl⟩) | (go_at_call 22; refine (time_no _ _ HT.out).mono ?_; rintro e w1 ⟨rfl, rfl⟩))
    go_ret2
    exact ⟨rfl, rfl⟩
  · have HG := Lib.hid hg
    clear h hg
    go_enter Try.func10, Try.ntmps10
    go_wp2_with (first | (go_at_call 17; refine (right_no _ _ HG.out).mono ?_; rintro e w1 ⟨rfl, rfl⟩))
    go_ret2
    exact ⟨rfl, rfl⟩
set_option maxHeartbeats 400000 in
theorem rCeil_good (t g : Int) (w : World) (h : okBoth t g) : Calls Try.prog 11 #[.int .i64 t, .int .i64 g] w fun e w' => e = .returned (.tuple #[.int .i64 (clg t g), .int .i64 0]) ∧ w = w' := by
  have H := Lib.hid h
  obtain ⟨⟨h1, h2⟩, ⟨h3, h4⟩⟩ := h
  have hc := clg_eq (t := t) h1
  have hb := flr_bd (t := t) h1
  obtain ⟨F, hF⟩ : ∃ F, F = flr t g := ⟨_, rfl⟩
  rw [← hF] at hc hb
  obtain ⟨hb1, hb2⟩ := hb
  have HF := Lib.hid hF
  clear hF
  by_cases hn : F < t
  · rw [if_pos hn] at hc
    rw [hc]
    clear hc
    go_enter Try.func11, Try.ntmps11
    go_wp2_with fail
    refine (rFloor_good _ _ _ H.out).mono ?_
    rintro e w1 ⟨rfl, rfl⟩
    rw [← HF.out]
    go_wp2
    go_ret2
    exact ⟨rfl, rfl⟩
  · rw [if_neg hn] at hc
    rw [hc]
    clear hc
    go_enter Try.func11, Try.ntmps11
    go_wp2_with fail
    refine (rFloor_good _ _ _ H.out).mono ?_
    rintro e w1 ⟨rfl, rfl⟩
    rw [← HF.out]
    go_wp2
    go_ret2
    exact ⟨rfl, rfl⟩
theorem rCeil_bad (t g : Int) (w : World) (h : ¬ okBoth t g) : Calls Try.prog 11 #[.int .i64 t, .int .i64 g] w fun e w' => e = .returned (.tuple #[.int .i64 0, .int .i64 111]) ∧ w = w' := by
  go_enter Try.func11, Try.ntmps11
  go_wp2_with fail
  refine (rFloor_bad _ _ _ h).mono ?_
  rintro e w1 ⟨rfl, rfl⟩
  clear h
  go_wp2
  go_ret2
  exact ⟨rfl, rfl⟩
/-- Does a time begin a bucket? -/
def alB (t g : Int) : Bool := decide (okGran g) && (t.tmod g == 0)
theorem al_any (t g : Int) (w : World) : Calls Try.prog 13 #[.int .i64 t, .int .i64 g] w fun e w' => e = .returned (.bool (alB t g)) ∧ w = w' := by
  by_cases hg : okGran g
  · have HG := Lib.hid hg
    have hg1 := hg.1
    by_cases h0 : t.tmod g = 0
    · have hb : (t.tmod g == 0) = true := by simpa using h0
      have HA := Lib.hid (show alB t g = true by simp [alB, hg, h0])
      clear hg h0
      go_enter Try.func13, Try.ntmps13
      go_wp2_with (go_at_call 17; refine (right_yes _ _ HG.out).mono ?_; rintro e w1 ⟨rfl, rfl⟩)
      go_ret
      exact ⟨by rw [HA.out]; rfl, rfl⟩
    · have hb : (t.tmod g == 0) = false := by simpa using h0
      have HA := Lib.hid (show alB t g = false by simp [alB, h0])
      clear hg h0
      go_enter Try.func13, Try.ntmps13
      go_wp2_with (go_at_call 17; refine (right_yes _ _ HG.out).mono ?_; rintro e w1 ⟨rfl, rfl⟩)
      go_ret
      exact ⟨by rw [HA.out]; rfl, rfl⟩
  · have HG := Lib.hid hg
    have HA := Lib.hid (show alB t g = false by simp [alB, hg])
    clear hg
    go_enter Try.func13, Try.ntmps13
    go_wp2_with (go_at_call 17; refine (right_no _ _ HG.out).mono ?_; rintro e w1 ⟨rfl, rfl⟩)
    go_ret
    exact ⟨by rw [HA.out]; rfl, rfl⟩
theorem ral_any (t g : Int) (w : World) : Calls Try.prog 14 #[.int .i64 t, .int .i64 g] w fun e w' => e = .returned (.bool (alB t g)) ∧ w = w' := by
  by_cases hg : okGran g
  · have HG := Lib.hid hg
    have hg1 := hg.1
    by_cases h0 : t.tmod g = 0
    · have hb : (t.tmod g == 0) = true := by simpa using h0
      have HA := Lib.hid (show alB t g = true by simp [alB, hg, h0])
      clear hg h0
      go_enter Try.func14, Try.ntmps14
      go_wp2_with (go_at_call 18; refine (rright_yes _ _ HG.out).mono ?_; rintro e w1 ⟨rfl, rfl⟩)
      go_ret
      exact ⟨by rw [HA.out]; rfl, rfl⟩
    · have hb : (t.tmod g == 0) = false := by simpa using h0
      have HA := Lib.hid (show alB t g = false by simp [alB, h0])
      clear hg h0
      go_enter Try.func14, Try.ntmps14
      go_wp2_with (go_at_call 18; refine (rright_yes _ _ HG.out).mono ?_; rintro e w1 ⟨rfl, rfl⟩)
      go_ret
      exact ⟨by rw [HA.out]; rfl, rfl⟩
  · have HG := Lib.hid hg
    have HA := Lib.hid (show alB t g = false by simp [alB, hg])
    clear hg
    go_enter Try.func14, Try.ntmps14
    go_wp2_with (go_at_call 18; refine (rright_no _ _ HG.out).mono ?_; rintro e w1 ⟨rfl, rfl⟩)
    go_ret
    exact ⟨by rw [HA.out]; rfl, rfl⟩
/-- Is a granularity a multiple of another? -/
def coB (a b : Int) : Bool := decide (okGran a) && decide (okGran b) && (a % b == 0)
theorem co_any (a b : Int) (w : World) : Calls Try.prog 15 #[.int .i64 a, .int .i64 b] w fun e w' => e = .returned (.bool (coB a b)) ∧ w = w' := by
  by_cases ha : okGran a
  · have HGA := Lib.hid ha
    have ha1 := ha.1
    by_cases hg : okGran b
    · have HGB := Lib.hid hg
      have hb1 := hg.1
      by_cases h0 : a % b = 0
      · have hb : (a % b == 0) = true := by simpa using h0
        have HA := Lib.hid (show coB a b = true by simp [coB, ha, hg, h0])
        clear ha hg h0
        go_enter Try.func15, Try.ntmps15
        go_wp2_with fail
        refine (right_yes _ _ HGA.out).mono ?_
        rintro e w1 ⟨rfl, rfl⟩
        go_wp2_with fail
        refine (right_yes _ _ HGB.out).mono ?_
        rintro e w1 ⟨rfl, rfl⟩
        go_wp2
        go_ret
        exact ⟨by rw [HA.out]; rfl, rfl⟩
      · have hb : (a % b == 0) = false := by simpa using h0
        have HA := Lib.hid (show coB a b = false by simp [coB, h0])
        clear ha hg h0
        go_enter Try.func15, Try.ntmps15
        go_wp2_with fail
        refine (right_yes _ _ HGA.out).mono ?_
        rintro e w1 ⟨rfl, rfl⟩
        go_wp2_with fail
        refine (right_yes _ _ HGB.out).mono ?_
        rintro e w1 ⟨rfl, rfl⟩
        go_wp2
        go_ret
        exact ⟨by rw [HA.out]; rfl, rfl⟩
    · have HGB := Lib.hid hg
      have HA := Lib.hid (show coB a b = false by simp [coB, hg])
      clear ha hg
      go_enter Try.func15, Try.ntmps15
      go_wp2_with fail
      refine (right_yes _ _ HGA.out).mono ?_
      rintro e w1 ⟨rfl, rfl⟩
      go_wp2_with fail
      refine (right_no _ _ HGB.out).mono ?_
      rintro e w1 ⟨rfl, rfl⟩
      go_wp2
      go_ret
      exact ⟨by rw [HA.out]; rfl, rfl⟩
  · have HGA := Lib.hid ha
    have HA := Lib.hid (show coB a b = false by simp [coB, ha])
    clear ha
    go_enter Try.func15, Try.ntmps15
    go_wp2_with fail
    refine (right_no _ _ HGA.out).mono ?_
    rintro e w1 ⟨rfl, rfl⟩
    go_wp2
    go_ret
    exact ⟨by rw [HA.out]; rfl, rfl⟩
theorem rright_any (g : Int) (w : World) : Calls Try.prog 18 #[.int .i64 g] w fun e w' => e = .returned (.bool (decide (okGran g))) ∧ w = w' := by
  by_cases h : okGran g
  · rw [decide_eq_true h]; exact rright_yes g w h
  · rw [decide_eq_false h]; exact rright_no g w h
theorem right_any (g : Int) (w : World) : Calls Try.prog 17 #[.int .i64 g] w fun e w' => e = .returned (.bool (decide (okGran g))) ∧ w = w' := by
  by_cases h : okGran g
  · rw [decide_eq_true h]; exact right_yes g w h
  · rw [decide_eq_false h]; exact right_no g w h
theorem rco_any (a b : Int) (w : World) : Calls Try.prog 16 #[.int .i64 a, .int .i64 b] w fun e w' => e = .returned (.bool (coB a b)) ∧ w = w' := by
  by_cases ha : okGran a
  · have HGA := Lib.hid ha
    have ha1 := ha.1
    by_cases hg : okGran b
    · have HGB := Lib.hid hg
      have hb1 := hg.1
      by_cases h0 : a % b = 0
      · have hb : (a % b == 0) = true := by simpa using h0
        have HA := Lib.hid (show coB a b = true by simp [coB, ha, hg, h0])
        clear ha hg h0
        go_enter Try.func16, Try.ntmps16
        go_wp2_with fail
        refine (rright_yes _ _ HGA.out).mono ?_
        rintro e w1 ⟨rfl, rfl⟩
        go_wp2_with fail
        refine (rright_yes _ _ HGB.out).mono ?_
        rintro e w1 ⟨rfl, rfl⟩
        go_wp2
        go_ret
        exact ⟨by rw [HA.out]; rfl, rfl⟩
      · have hb : (a % b == 0) = false := by simpa using h0
        have HA := Lib.hid (show coB a b = false by simp [coB, h0])
        clear ha hg h0
        go_enter Try.func16, Try.ntmps16
        go_wp2_with fail
        refine (rright_yes _ _ HGA.out).mono ?_
        rintro e w1 ⟨rfl, rfl⟩
        go_wp2_with fail
        refine (rright_yes _ _ HGB.out).mono ?_
        rintro e w1 ⟨rfl, rfl⟩
        go_wp2
        go_ret
        exact ⟨by rw [HA.out]; rfl, rfl⟩
    · have HGB := Lib.hid hg
      have HA := Lib.hid (show coB a b = false by simp [coB, hg])
      clear ha hg
      go_enter Try.func16, Try.ntmps16
      go_wp2_with fail
      refine (rright_yes _ _ HGA.out).mono ?_
      rintro e w1 ⟨rfl, rfl⟩
      go_wp2_with fail
      refine (rright_no _ _ HGB.out).mono ?_
      rintro e w1 ⟨rfl, rfl⟩
      go_wp2
      go_ret
      exact ⟨by rw [HA.out]; rfl, rfl⟩
  · have HGA := Lib.hid ha
    have HA := Lib.hid (show coB a b = false by simp [coB, ha])
    clear ha
    go_enter Try.func16, Try.ntmps16
    go_wp2_with fail
    refine (rright_no _ _ HGA.out).mono ?_
    rintro e w1 ⟨rfl, rfl⟩
    go_wp2_with fail
    refine (rright_any _ _).mono ?_
    rintro e w1 ⟨rfl, rfl⟩
    obtain ⟨B, hB⟩ : ∃ B, B = decide (okGran b) := ⟨_, rfl⟩
    rw [← hB]
    clear hB
    cases B
    all_goals
      go_wp2
      go_ret
      exact ⟨by rw [HA.out]; rfl, rfl⟩
end Go.Proofs.Ytmjjlolbdjjepaa
