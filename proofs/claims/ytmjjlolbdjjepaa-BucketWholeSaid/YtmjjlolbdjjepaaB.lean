/- Buckets: rounding down, and the small calls. -/
import Derived.Test.YtmjjlolbdjjepaaA
namespace Go.Proofs.Ytmjjlolbdjjepaa
open Go.RowKit
set_option linter.unusedSimpArgs false
set_option linter.unusedVariables false
def flr (t g : Int) : Int := t - t % g
theorem tmod_ways {t g : Int} (hg : 1 ≤ g) : -g < t.tmod g ∧ t.tmod g < g ∧ (0 ≤ t.tmod g → t % g = t.tmod g) ∧ (t.tmod g < 0 → t % g = t.tmod g + g) ∧ (t.tdiv g * g = t - t.tmod g) := by
  have e := Int.tmod_add_mul_tdiv t g
  have h1 : t.tmod g < g := Int.tmod_lt_of_pos t (by omega)
  have h2 : -g < t.tmod g := by
    have := Int.tmod_lt_of_pos (-t) (b := g) (by omega)
    rw [Int.neg_tmod] at this; omega
  have h3 : t % g = t.tmod g % g := by conv => lhs; rw [← e, Int.add_mul_emod_self_left]
  refine ⟨h2, h1, fun h => by rw [h3, Int.emod_eq_of_lt h h1], fun h => ?_, by rw [Int.mul_comm]; omega⟩
  rw [h3, ← Int.add_emod_right, Int.emod_eq_of_lt (by omega) (by omega)]
theorem flr_bd {t g : Int} (hg : 1 ≤ g) : flr t g ≤ t ∧ t < flr t g + g := by
  have h1 := Int.emod_nonneg t (show g ≠ 0 by omega)
  have h2 := Int.emod_lt_of_pos t (show 0 < g by omega)
  unfold flr; omega
def okGran (g : Int) : Prop := 1 ≤ g ∧ g ≤ 1048576
def okTime (t : Int) : Prop := -1099511627776 ≤ t ∧ t ≤ 1099511627776
instance (g : Int) : Decidable (okGran g) := by unfold okGran; exact inferInstance
instance (g : Int) : Decidable (okTime g) := by unfold okTime; exact inferInstance
theorem right_yes (g : Int) (w : World) (h : okGran g) : Calls Try.prog 17 #[.int .i64 g] w fun e w' => e = .returned (.bool true) ∧ w = w' := by
  obtain ⟨h1, h2⟩ := h
  go_enter Try.func17, Try.ntmps17
  go_wp2
  go_ret
  exact ⟨by simp [h1, h2], rfl⟩
theorem right_no (g : Int) (w : World) (h : ¬ okGran g) : Calls Try.prog 17 #[.int .i64 g] w fun e w' => e = .returned (.bool false) ∧ w = w' := by
  unfold okGran at h
  by_cases h1 : 1 ≤ g
  · have h2 : 1048576 < g := by omega
    clear h
    go_enter Try.func17, Try.ntmps17
    go_wp2
    go_ret
    exact ⟨by first | rfl | (simp; omega), rfl⟩
  · clear h
    go_enter Try.func17, Try.ntmps17
    go_wp2
    go_ret
    exact ⟨by first | rfl | (simp; omega), rfl⟩
theorem rright_yes (g : Int) (w : World) (h : okGran g) : Calls Try.prog 18 #[.int .i64 g] w fun e w' => e = .returned (.bool true) ∧ w = w' := by
  obtain ⟨h1, h2⟩ := h
  go_enter Try.func18, Try.ntmps18
  go_wp2
  go_ret
  exact ⟨by simp [h1, h2], rfl⟩
theorem rright_no (g : Int) (w : World) (h : ¬ okGran g) : Calls Try.prog 18 #[.int .i64 g] w fun e w' => e = .returned (.bool false) ∧ w = w' := by
  unfold okGran at h
  by_cases h1 : 1 ≤ g
  · have h2 : 1048576 < g := by omega
    clear h
    go_enter Try.func18, Try.ntmps18
    go_wp2
    go_ret
    exact ⟨by first | rfl | (simp; omega), rfl⟩
  · clear h
    go_enter Try.func18, Try.ntmps18
    go_wp2
    go_ret
    exact ⟨by first | rfl | (simp; omega), rfl⟩
theorem time_yes (t : Int) (w : World) (h : okTime t) : Calls Try.prog 22 #[.int .i64 t] w fun e w' => e = .returned (.bool true) ∧ w = w' := by
  obtain ⟨h1, h2⟩ := h
  go_enter Try.func22, Try.ntmps22
  go_wp2
  go_ret
  exact ⟨by simp [h1, h2], rfl⟩
theorem time_no (t : Int) (w : World) (h : ¬ okTime t) : Calls Try.prog 22 #[.int .i64 t] w fun e w' => e = .returned (.bool false) ∧ w = w' := by
  unfold okTime at h
  by_cases h1 : -1099511627776 ≤ t
  · have h2 : 1099511627776 < t := by omega
    clear h
    go_enter Try.func22, Try.ntmps22
    go_wp2
    go_ret
    exact ⟨by first | rfl | (simp; omega), rfl⟩
  · clear h
    go_enter Try.func22, Try.ntmps22
    go_wp2
    go_ret
    exact ⟨by first | rfl | (simp; omega), rfl⟩
theorem fits_yes (t g : Int) (w : World) (h : okGran g) (ht : okTime t) : Calls Try.prog 24 #[.int .i64 t, .int .i64 g] w fun e w' => e = .returned (.bool true) ∧ w = w' := by
  obtain ⟨h1, h2⟩ := ht
  have H := Lib.hid h
  clear h
  go_enter Try.func24, Try.ntmps24
  go_wp2_with (go_at_call 18; refine (rright_yes _ _ H.out).mono ?_; rintro e w1 ⟨rfl, rfl⟩)
  go_ret
  exact ⟨by simp [h1, h2], rfl⟩
theorem fits_no (t g : Int) (w : World) (h : ¬ (okGran g ∧ okTime t)) : Calls Try.prog 24 #[.int .i64 t, .int .i64 g] w fun e w' => e = .returned (.bool false) ∧ w = w' := by
  by_cases hg : okGran g
  · have ht : ¬ okTime t := fun ht => h ⟨hg, ht⟩
    have HG := Lib.hid hg
    unfold okTime at ht
    clear h hg
    by_cases h1 : -1099511627776 ≤ t
    · have h2 : 1099511627776 < t := by omega
      clear ht
      go_enter Try.func24, Try.ntmps24
      go_wp2_with (go_at_call 18; refine (rright_yes _ _ HG.out).mono ?_; rintro e w1 ⟨rfl, rfl⟩)
      go_ret
      exact ⟨by first | rfl | (simp; omega), rfl⟩
    · clear ht
      go_enter Try.func24, Try.ntmps24
      go_wp2_with (go_at_call 18; refine (rright_yes _ _ HG.out).mono ?_; rintro e w1 ⟨rfl, rfl⟩)
      go_ret
      exact ⟨by first | rfl | (simp; omega), rfl⟩
  · have HG := Lib.hid hg
    clear h hg
    go_enter Try.func24, Try.ntmps24
    go_wp2_with (go_at_call 18; refine (rright_no _ _ HG.out).mono ?_; rintro e w1 ⟨rfl, rfl⟩)
    go_ret
    exact ⟨by first | rfl | (simp; omega), rfl⟩
set_option maxHeartbeats 400000 in
theorem floor_any (t g : Int) (w : World) (h1 : 1 ≤ g) (h2 : g ≤ 1048576) (h3 : -1099512676352 ≤ t) (h4 : t ≤ 1099512676352) :
    Calls Try.prog 23 #[.int .i64 t, .int .i64 g] w fun e w' => e = .returned (.int .i64 (flr t g)) ∧ w = w' := by
  obtain ⟨b1, b2, b3, b4, b5⟩ := tmod_ways (t := t) h1
  obtain ⟨P, hP⟩ : ∃ P, t.tmod g = P := ⟨_, rfl⟩
  rw [hP] at b1 b2 b3 b4
  clear b5
  by_cases hn : P < 0
  · have HF := Lib.hid (show t - (P + g) = flr t g by unfold flr; rw [b4 hn])
    clear b3 b4
    go_enter Try.func23, Try.ntmps23
    go_wp2
    go_ret
    exact ⟨by rw [← HF.out]; rfl, rfl⟩
  · have hn' : 0 ≤ P := by omega
    have HF := Lib.hid (show t - P = flr t g by unfold flr; rw [b3 hn'])
    clear b3 b4
    go_enter Try.func23, Try.ntmps23
    go_wp2
    go_ret
    exact ⟨by rw [← HF.out]; rfl, rfl⟩
end Go.Proofs.Ytmjjlolbdjjepaa
