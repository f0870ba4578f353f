/- Buckets (ported). -/
import Derived.Test.YtgaallkdfcckpaaMA
import Derived.WalkKit
import Derived.ProofKit
import Derived.OpenShut
import Derived.Below
import Derived.Lib.Hide
import Derived.WalkLawsBesides
import Derived.Laws.OwnMore
namespace Go.Proofs.Ytgaallkdfcckpaa
open Go.RowKit
set_option linter.unusedSimpArgs false
set_option linter.unusedVariables false
def flr (t g : Int) : Int := t - t % g
theorem tmod_ways {t g : Int} (hg : 1 ≤ g) : -g < t.tmod g ∧ t.tmod g < g ∧ (0 ≤ t.tmod g → t % g = t.tmod g) ∧ (t.tmod g < 0 → t % g = t.tmod g + g) ∧ (t.tdiv g * g = t - t.tmod g) := by
  have e := Int.tmod_add_mul_tdiv t g
  have h1 : t.tmod g < g := Int.tmod_lt_of_pos t (by omega)
  have h2 : -g < t.tmod g := by
    have := Int.tmod_lt_of_pos (-t) (b := g) (by omega)
    rw [Int.neg_tmod] at this; omega
  have h3 : t % g = t.tmod g % g := by conv => lhs; rw [← e, Int.add_mul_emod_self_left]
  refine ⟨h2, h1, fun h => by rw [h3, Int.emod_eq_of_lt h h1], fun h => ?_, by rw [Int.mul_comm]; omega⟩
  rw [h3, ← Int.add_emod_right, Int.emod_eq_of_lt (by omega) (by omega)]
theorem flr_bd {t g : Int} (hg : 1 ≤ g) : flr t g ≤ t ∧ t < flr t g + g := by
  have h1 := Int.emod_nonneg t (show g ≠ 0 by omega)
  have h2 := Int.emod_lt_of_pos t (show 0 < g by omega)
  unfold flr; omega
def okGran (g : Int) : Prop := 1 ≤ g ∧ g ≤ 1048576
def okTime (t : Int) : Prop := -1099511627776 ≤ t ∧ t ≤ 1099511627776
instance (g : Int) : Decidable (okGran g) := by unfold okGran; exact inferInstance
instance (g : Int) : Decidable (okTime g) := by unfold okTime; exact inferInstance
theorem right_yes (g : Int) (w : World) (h : okGran g) : Calls Try.prog 56 #[.int .i64 g] w fun e w' => e = .returned (.bool true) ∧ w = w' := by
  obtain ⟨h1, h2⟩ := h
  go_enter Try.func56, Try.ntmps56
  go_wp2
  go_ret
  exact ⟨by simp [h1, h2], rfl⟩
theorem right_no (g : Int) (w : World) (h : ¬ okGran g) : Calls Try.prog 56 #[.int .i64 g] w fun e w' => e = .returned (.bool false) ∧ w = w' := by
  unfold okGran at h
  by_cases h1 : 1 ≤ g
  · have h2 : 1048576 < g := by omega
    clear h
    go_enter Try.func56, Try.ntmps56
    go_wp2
    go_ret
    exact ⟨by first | rfl | (simp; omega), rfl⟩
  · clear h
    go_enter Try.func56, Try.ntmps56
    go_wp2
    go_ret
    exact ⟨by first | rfl | (simp; omega), rfl⟩
theorem rright_yes (g : Int) (w : World) (h : okGran g) : Calls Try.prog 58 #[.int .i64 g] w fun e w' => e = .returned (.bool true) ∧ w = w' := by
  obtain ⟨h1, h2⟩ := h
  go_enter Try.func58, Try.ntmps58
  go_wp2
  go_ret
  exact ⟨by simp [h1, h2], rfl⟩
theorem rright_no (g : Int) (w : World) (h : ¬ okGran g) : Calls Try.prog 58 #[.int .i64 g] w fun e w' => e = .returned (.bool false) ∧ w = w' := by
  unfold okGran at h
  by_cases h1 : 1 ≤ g
  · have h2 : 1048576 < g := by omega
    clear h
    go_enter Try.func58, Try.ntmps58
    go_wp2
    go_ret
    exact ⟨by first | rfl | (simp; omega), rfl⟩
  · clear h
    go_enter Try.func58, Try.ntmps58
    go_wp2
    go_ret
    exact ⟨by first | rfl | (simp; omega), rfl⟩
end Go.Proofs.Ytgaallkdfcckpaa
namespace Go.Proofs.Ytgaallkdfcckpaa
open Go.RowKit
set_option linter.unusedSimpArgs false
set_option linter.unusedVariables false
def okBoth (t g : Int) : Prop := okGran g ∧ okTime t
def clg (t g : Int) : Int := flr (t + g - 1) g
theorem clg_eq {t g : Int} (hg : 1 ≤ g) : clg t g = if flr t g < t then flr t g + g else flr t g := by
  have h1 := Int.emod_nonneg t (show g ≠ 0 by omega)
  have h2 := Int.emod_lt_of_pos t (show 0 < g by omega)
  have e := Int.emod_add_mul_ediv t g
  obtain ⟨q, hq⟩ : ∃ q, q = t / g := ⟨_, rfl⟩
  obtain ⟨r, hr⟩ : ∃ r, r = t % g := ⟨_, rfl⟩
  rw [← hq, ← hr] at e
  unfold clg flr
  rw [← hr] at h1 h2 ⊢
  by_cases h0 : r = 0
  · have e2 : (t + g - 1) % g = g - 1 := by
      rw [show t + g - 1 = (g - 1) + g * q by omega, Int.add_mul_emod_self_left, Int.emod_eq_of_lt (by omega) (by omega)]
    rw [e2, if_neg (by omega)]; omega
  · have e2 : (t + g - 1) % g = r - 1 := by
      rw [show t + g - 1 = (r - 1) + g * (q + 1) by rw [Int.mul_add]; omega, Int.add_mul_emod_self_left, Int.emod_eq_of_lt (by omega) (by omega)]
    rw [e2, if_pos (by omega)]; omega
/-- Does a time begin a bucket? -/
def alB (t g : Int) : Bool := decide (okGran g) && (t.tmod g == 0)
/-- Is a granularity a multiple of another? -/
def coB (a b : Int) : Bool := decide (okGran a) && decide (okGran b) && (a % b == 0)
theorem brright_any (g : Int) (w : World) : Calls Try.prog 58 #[.int .i64 g] w fun e w' => e = .returned (.bool (decide (okGran g))) ∧ w = w' := by
  by_cases h : okGran g
  · rw [decide_eq_true h]; exact rright_yes g w h
  · rw [decide_eq_false h]; exact rright_no g w h
theorem bright_any (g : Int) (w : World) : Calls Try.prog 56 #[.int .i64 g] w fun e w' => e = .returned (.bool (decide (okGran g))) ∧ w = w' := by
  by_cases h : okGran g
  · rw [decide_eq_true h]; exact right_yes g w h
  · rw [decide_eq_false h]; exact right_no g w h
end Go.Proofs.Ytgaallkdfcckpaa
