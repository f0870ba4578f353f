/- Buckets (ported). -/
import Derived.Test.YtmmeekmiildliaaGreatDoorMA
import Derived.WalkKit
import Derived.ProofKit
import Derived.OpenShut
import Derived.Below
import Derived.Lib.Hide
import Derived.WalkLawsBesides
import Derived.Laws.OwnMore
namespace Go.Proofs.YtmmeekmiildliaaGreatDoor
open Go.RowKit
set_option linter.unusedSimpArgs false
set_option linter.unusedVariables false
def flr (t g : Int) : Int := t - t % g
theorem tmod_ways {t g : Int} (hg : 1 ≤ g) : -g < t.tmod g ∧ t.tmod g < g ∧ (0 ≤ t.tmod g → t % g = t.tmod g) ∧ (t.tmod g < 0 → t % g = t.tmod g + g) ∧ (t.tdiv g * g = t - t.tmod g) := by
  have e := Int.tmod_add_mul_tdiv t g
  have h1 : t.tmod g < g := Int.tmod_lt_of_pos t (by omega)
  have h2 : -g < t.tmod g := by
    have := Int.tmod_lt_of_pos (-t) (b := g) (by omega)
    rw [Int.neg_tmod] at this; omega
  have h3 : t % g = t.tmod g % g := by conv => lhs; rw [← e, Int.add_mul_emod_self_left]
  refine ⟨h2, h1, fun h => by rw [h3, Int.emod_eq_of_lt h h1], fun h => ?_, by rw [Int.mul_comm]; omega⟩
  rw [h3, ← Int.add_emod_right, Int.emod_eq_of_lt (by omega) (by omega)]
theorem flr_bd {t g : Int} (hg : 1 ≤ g) : flr t g ≤ t ∧ t < flr t g + g := by
  have h1 := Int.emod_nonneg t (show g ≠ 0 by omega)
  have h2 := Int.emod_lt_of_pos t (show 0 < g by omega)
  unfold flr; omega
def okGran (g : Int) : Prop := 1 ≤ g ∧ g ≤ 1048576
def okTime (t : Int) : Prop := -1099511627776 ≤ t ∧ t ≤ 1099511627776
instance (g : Int) : Decidable (okGran g) := by unfold okGran; exact inferInstance
instance (g : Int) : Decidable (okTime g) := by unfold okTime; exact inferInstance
theorem right_yes (g : Int) (w : World) (h : okGran g) : Calls Tryz.prog 35 #[.int .i64 g] w fun e w' => e = .returned (.bool true) ∧ w = w' := by
  obtain ⟨h1, h2⟩ := h
  go_enter Tryz.func35, Tryz.ntmps35
  go_wp2
  go_ret
  exact ⟨by simp [h1, h2], rfl⟩
theorem right_no (g : Int) (w : World) (h : ¬ okGran g) : Calls Tryz.prog 35 #[.int .i64 g] w fun e w' => e = .returned (.bool false) ∧ w = w' := by
  unfold okGran at h
  by_cases h1 : 1 ≤ g
  · have h2 : 1048576 < g := by omega
    clear h
    go_enter Tryz.func35, Tryz.ntmps35
    go_wp2
    go_ret
    exact ⟨by first | rfl | (simp; omega), rfl⟩
  · clear h
    go_enter Tryz.func35, Tryz.ntmps35
    go_wp2
    go_ret
    exact ⟨by first | rfl | (simp; omega), rfl⟩
theorem rright_yes (g : Int) (w : World) (h : okGran g) : Calls Tryz.prog 37 #[.int .i64 g] w fun e w' => e = .returned (.bool true) ∧ w = w' := by
  obtain ⟨h1, h2⟩ := h
  go_enter Tryz.func37, Tryz.ntmps37
  go_wp2
  go_ret
  exact ⟨by simp [h1, h2], rfl⟩
theorem rright_no (g : Int) (w : World) (h : ¬ okGran g) : Calls Tryz.prog 37 #[.int .i64 g] w fun e w' => e = .returned (.bool false) ∧ w = w' := by
  unfold okGran at h
  by_cases h1 : 1 ≤ g
  · have h2 : 1048576 < g := by omega
    clear h
    go_enter Tryz.func37, Tryz.ntmps37
    go_wp2
    go_ret
    exact ⟨by first | rfl | (simp; omega), rfl⟩
  · clear h
    go_enter Tryz.func37, Tryz.ntmps37
    go_wp2
    go_ret
    exact ⟨by first | rfl | (simp; omega), rfl⟩
theorem time_yes (t : Int) (w : World) (h : okTime t) : Calls Tryz.prog 76 #[.int .i64 t] w fun e w' => e = .returned (.bool true) ∧ w = w' := by
  obtain ⟨h1, h2⟩ := h
  go_enter Tryz.func76, Tryz.ntmps76
  go_wp2
  go_ret
  exact ⟨by simp [h1, h2], rfl⟩
theorem time_no (t : Int) (w : World) (h : ¬ okTime t) : Calls Tryz.prog 76 #[.int .i64 t] w fun e w' => e = .returned (.bool false) ∧ w = w' := by
  unfold okTime at h
  by_cases h1 : -1099511627776 ≤ t
  · have h2 : 1099511627776 < t := by omega
    clear h
    go_enter Tryz.func76, Tryz.ntmps76
    go_wp2
    go_ret
    exact ⟨by first | rfl | (simp; omega), rfl⟩
  · clear h
    go_enter Tryz.func76, Tryz.ntmps76
    go_wp2
    go_ret
    exact ⟨by first | rfl | (simp; omega), rfl⟩
theorem tfits_yes (t g : Int) (w : World) (h : okGran g) (ht : okTime t) : Calls Tryz.prog 82 #[.int .i64 t, .int .i64 g] w fun e w' => e = .returned (.bool true) ∧ w = w' := by
  obtain ⟨h1, h2⟩ := ht
  have H := Lib.hid h
  clear h
  go_enter Tryz.func82, Tryz.ntmps82
  go_wp2_with (go_at_call 37; refine (rright_yes _ _ H.out).mono ?_; rintro e w1 ⟨rfl, rfl⟩)
  go_ret
  exact ⟨by simp [h1, h2], rfl⟩
theorem tfits_no (t g : Int) (w : World) (h : ¬ (okGran g ∧ okTime t)) : Calls Tryz.prog 82 #[.int .i64 t, .int .i64 g] w fun e w' => e = .returned (.bool false) ∧ w = w' := by
  by_cases hg : okGran g
  · have ht : ¬ okTime t := fun ht => h ⟨hg, ht⟩
    have HG := Lib.hid hg
    unfold okTime at ht
    clear h hg
    by_cases h1 : -1099511627776 ≤ t
    · have h2 : 1099511627776 < t := by omega
      clear ht
      go_enter Tryz.func82, Tryz.ntmps82
      go_wp2_with (go_at_call 37; refine (rright_yes _ _ HG.out).mono ?_; rintro e w1 ⟨rfl, rfl⟩)
      go_ret
      exact ⟨by first | rfl | (simp; omega), rfl⟩
    · clear ht
      go_enter Tryz.func82, Tryz.ntmps82
      go_wp2_with (go_at_call 37; refine (rright_yes _ _ HG.out).mono ?_; rintro e w1 ⟨rfl, rfl⟩)
      go_ret
      exact ⟨by first | rfl | (simp; omega), rfl⟩
  · have HG := Lib.hid hg
    clear h hg
    go_enter Tryz.func82, Tryz.ntmps82
    go_wp2_with (go_at_call 37; refine (rright_no _ _ HG.out).mono ?_; rintro e w1 ⟨rfl, rfl⟩)
    go_ret
    exact ⟨by first | rfl | (simp; omega), rfl⟩
set_option maxHeartbeats 400000 in
theorem floor_any (t g : Int) (w : World) (h1 : 1 ≤ g) (h2 : g ≤ 1048576) (h3 : -1099512676352 ≤ t) (h4 : t ≤ 1099512676352) :
    Calls Tryz.prog 77 #[.int .i64 t, .int .i64 g] w fun e w' => e = .returned (.int .i64 (flr t g)) ∧ w = w' := by
  obtain ⟨b1, b2, b3, b4, b5⟩ := tmod_ways (t := t) h1
  obtain ⟨P, hP⟩ : ∃ P, t.tmod g = P := ⟨_, rfl⟩
  rw [hP] at b1 b2 b3 b4
  clear b5
  by_cases hn : P < 0
  · have HF := Lib.hid (show t - (P + g) = flr t g by unfold flr; rw [b4 hn])
    clear b3 b4
    go_enter Tryz.func77, Tryz.ntmps77
    go_wp2
    go_ret
    exact ⟨by rw [← HF.out]; rfl, rfl⟩
  · have hn' : 0 ≤ P := by omega
    have HF := Lib.hid (show t - P = flr t g by unfold flr; rw [b3 hn'])
    clear b3 b4
    go_enter Tryz.func77, Tryz.ntmps77
    go_wp2
    go_ret
    exact ⟨by rw [← HF.out]; rfl, rfl⟩
end Go.Proofs.YtmmeekmiildliaaGreatDoor
namespace Go.Proofs.YtmmeekmiildliaaGreatDoor
open Go.RowKit
set_option linter.unusedSimpArgs false
set_option linter.unusedVariables false
def okBoth (t g : Int) : Prop := okGran g ∧ okTime t
def clg (t g : Int) : Int := flr (t + g - 1) g
theorem clg_eq {t g : Int} (hg : 1 ≤ g) : clg t g = if flr t g < t then flr t g + g else flr t g := by
  have h1 := Int.emod_nonneg t (show g ≠ 0 by omega)
  have h2 := Int.emod_lt_of_pos t (show 0 < g by omega)
  have e := Int.emod_add_mul_ediv t g
  obtain ⟨q, hq⟩ : ∃ q, q = t / g := ⟨_, rfl⟩
  obtain ⟨r, hr⟩ : ∃ r, r = t % g := ⟨_, rfl⟩
  rw [← hq, ← hr] at e
  unfold clg flr
  rw [← hr] at h1 h2 ⊢
  by_cases h0 : r = 0
  · have e2 : (t + g - 1) % g = g - 1 := by
      rw [show t + g - 1 = (g - 1) + g * q by omega, Int.add_mul_emod_self_left, Int.emod_eq_of_lt (by omega) (by omega)]
    rw [e2, if_neg (by omega)]; omega
  · have e2 : (t + g - 1) % g = r - 1 := by
      rw [show t + g - 1 = (r - 1) + g * (q + 1) by rw [Int.mul_add]; omega, Int.add_mul_emod_self_left, Int.emod_eq_of_lt (by omega) (by omega)]
    rw [e2, if_pos (by omega)]; omega
set_option maxHeartbeats 400000 in
theorem Floor_good (t g : Int) (w : World) (h : okBoth t g) : Calls Tryz.prog 44 #[.int .i64 t, .int .i64 g] w fun e w' => e = .returned (.tuple #[.int .i64 (flr t g), .int .i64 0]) ∧ w = w' := by
  have HG := Lib.hid h.1
  have HT := Lib.hid h.2
  clear h
  go_enter Tryz.func44, Tryz.ntmps44
  go_wp2_with (first | (go_at_call 35; refine (right_yes _ _ HG.out).mono ?_; rintro e w1 ⟨rfl, rfl⟩) | (go_at_call 76; refine (time_yes _ _ HT.out).mono ?_; rintro e w1 ⟨rfl, rfl⟩) | (go_at_call 77; refine (floor_any _ _ _ HG.out.1 HG.out.2 (by have := HT.out.1; omega) (by have := HT.out.2; omega)).mono ?_; rintro e w1 ⟨rfl, rfl⟩))
  go_ret2
  exact ⟨rfl, rfl⟩
theorem Floor_bad (t g : Int) (w : World) (h : ¬ okBoth t g) : Calls Tryz.prog 44 #[.int .i64 t, .int .i64 g] w fun e w' => e = .returned (.tuple #[.int .i64 0, .int .i64 111]) ∧ w = w' := by
  by_cases hg : okGran g
  · have HT := Lib.hid (fun ht => h ⟨hg, ht⟩ : ¬ okTime t)
    have HG := Lib.hid hg
    clear h hg
    go_enter Tryz.func44, Tryz.ntmps44
    go_wp2_with (first | (go_at_call 35; refine (right_yes _ _ HG.out).mono ?_; rintro e w1 ⟨rfl, rfl⟩) | (go_at_call 76; refine (time_no _ _ HT.out).mono ?_; rintro e w1 ⟨rfl, rfl⟩))
    go_ret2
    exact ⟨rfl, rfl⟩
  · have HG := Lib.hid hg
    clear h hg
    go_enter Tryz.func44, Tryz.ntmps44
    go_wp2_with (first | (go_at_call 35; refine (right_no _ _ HG.out).mono ?_; rintro e w1 ⟨rfl, rfl⟩))
    go_ret2
    exact ⟨rfl, rfl⟩
set_option maxHeartbeats 400000 in
theorem rFloor_good (t g : Int) (w : World) (h : okBoth t g) : Calls Tryz.prog 48 #[.int .i64 t, .int .i64 g] w fun e w' => e = .returned (.tuple #[.int .i64 (flr t g), .int .i64 0]) ∧ w = w' := by
  obtain ⟨⟨h1, h2⟩, ⟨h3, h4⟩⟩ := h
  obtain ⟨b1, b2, b3, b4, b5⟩ := tmod_ways (t := t) h1
  obtain ⟨P, hP⟩ : ∃ P, t.tmod g = P := ⟨_, rfl⟩
  rw [hP] at b1 b2 b3 b4 b5
  clear hP
  have hq1 : -1099511627776 ≤ t.tdiv g ∧ t.tdiv g ≤ 1099511627776 := by
    have e1 : (t.tdiv g).natAbs = t.natAbs / g.natAbs := Int.natAbs_tdiv t g
    have e2 : t.natAbs / g.natAbs ≤ t.natAbs := Nat.div_le_self _ _
    omega
  obtain ⟨hq1, hq2⟩ := hq1
  have hm1 : -1099512676352 ≤ t.tdiv g * g := by rw [b5]; omega
  have hm2 : t.tdiv g * g ≤ 1099512676352 := by rw [b5]; omega
  have HF := Lib.hid (show okGran g ∧ okTime t from ⟨⟨h1, h2⟩, ⟨h3, h4⟩⟩)
  by_cases hn : P < 0
  · have HX := Lib.hid (show t.tdiv g * g - g = flr t g by unfold flr; rw [b4 hn, b5]; omega)
    have hgt : t < t.tdiv g * g := by rw [b5]; omega
    clear b1 b2 b3 b4 b5
    go_enter Tryz.func48, Tryz.ntmps48
    go_wp2_with (go_at_call 82; refine (tfits_yes _ _ _ HF.out.1 HF.out.2).mono ?_; rintro e w1 ⟨rfl, rfl⟩)
    go_ret2
    exact ⟨by rw [← HX.out]; rfl, rfl⟩
  · have HX := Lib.hid (show t.tdiv g * g = flr t g by unfold flr; rw [b3 (by omega), b5])
    have hgt : t.tdiv g * g ≤ t := by rw [b5]; omega
    clear b1 b2 b3 b4 b5
    go_enter Tryz.func48, Tryz.ntmps48
    go_wp2_with (go_at_call 82; refine (tfits_yes _ _ _ HF.out.1 HF.out.2).mono ?_; rintro e w1 ⟨rfl, rfl⟩)
    go_ret2
    exact ⟨by rw [← HX.out]; rfl, rfl⟩
theorem rFloor_bad (t g : Int) (w : World) (h : ¬ okBoth t g) : Calls Tryz.prog 48 #[.int .i64 t, .int .i64 g] w fun e w' => e = .returned (.tuple #[.int .i64 0, .int .i64 111]) ∧ w = w' := by
  have H := Lib.hid h
  clear h
  go_enter Tryz.func48, Tryz.ntmps48
  go_wp2_with (go_at_call 82; refine (tfits_no _ _ _ H.out).mono ?_; rintro e w1 ⟨rfl, rfl⟩)
  go_ret2
  exact ⟨rfl, rfl⟩
/-- Does a time begin a bucket? -/
def alB (t g : Int) : Bool := decide (okGran g) && (t.tmod g == 0)
/-- Is a granularity a multiple of another? -/
def coB (a b : Int) : Bool := decide (okGran a) && decide (okGran b) && (a % b == 0)
theorem brright_any (g : Int) (w : World) : Calls Tryz.prog 37 #[.int .i64 g] w fun e w' => e = .returned (.bool (decide (okGran g))) ∧ w = w' := by
  by_cases h : okGran g
  · rw [decide_eq_true h]; exact rright_yes g w h
  · rw [decide_eq_false h]; exact rright_no g w h
theorem bright_any (g : Int) (w : World) : Calls Tryz.prog 35 #[.int .i64 g] w fun e w' => e = .returned (.bool (decide (okGran g))) ∧ w = w' := by
  by_cases h : okGran g
  · rw [decide_eq_true h]; exact right_yes g w h
  · rw [decide_eq_false h]; exact right_no g w h
end Go.Proofs.YtmmeekmiildliaaGreatDoor
