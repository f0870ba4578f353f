/- Compare, Or (38, 37), the closure that puts plans in order (36), MinFunc (35). -/
import Derived.Test.YtgaallkdfcckpaaSH
import Derived.BigQuiet
import Derived.Deep.RegionHeld3
namespace Go.Proofs.Ytgaallkdfcckpaa
open Go.RowKit Go.Maps Go.Lib Go.Shelf
set_option linter.unusedSimpArgs false
set_option linter.unusedVariables false
def cmpI (a b : Int) : Int := if a < b then -1 else if b < a then 1 else 0
def orI (a b : Int) : Int := if a = 0 then b else a
def cmpX (a b : XZ) : Int := orI (cmpI a.rows b.rows) (cmpI a.proj b.proj)
def OrSt (k : Nat) (a b : Int) : Prop := (1 ≤ k → a = 0) ∧ (2 ≤ k → b = 0)
theorem nan_any (a : Int) (w : World) : Calls Try.prog 61 #[.int .i64 a] w fun e w' => e = .returned (.bool false) ∧ w = w' := by
  have h : (a != a) = false := by simp
  go_enter Try.func61, Try.ntmps61
  go_wp2
  go_ret
  exact ⟨by first | rfl | simp, rfl⟩
set_option maxRecDepth 100000 in
set_option maxHeartbeats 16000000 in
theorem cmp_any (a b : Int) (w : World) : Calls Try.prog 38 #[.int .i64 a, .int .i64 b] w fun e w' => e = .returned (.int .i64 (cmpI a b)) ∧ w = w' := by
  have HNA := Lib.hid (fun (a : Int) W => nan_any a W)
  by_cases h : a < b
  · have HE := Lib.hid (show cmpI a b = -1 by unfold cmpI; rw [if_pos h])
    go_enter Try.func38, Try.ntmps38
    go_wp2_with (first | (go_at_call 61; refine (HNA.out a _).mono ?_; rintro e w1 ⟨rfl, rfl⟩) | (go_at_call 61; refine (HNA.out b _).mono ?_; rintro e w1 ⟨rfl, rfl⟩))
    go_ret
    exact ⟨by rw [HE.out]; rfl, rfl⟩
  · by_cases h2 : b < a
    · have HE := Lib.hid (show cmpI a b = 1 by unfold cmpI; rw [if_neg h, if_pos h2])
      go_enter Try.func38, Try.ntmps38
      go_wp2_with (first | (go_at_call 61; refine (HNA.out a _).mono ?_; rintro e w1 ⟨rfl, rfl⟩) | (go_at_call 61; refine (HNA.out b _).mono ?_; rintro e w1 ⟨rfl, rfl⟩))
      go_ret
      exact ⟨by rw [HE.out]; rfl, rfl⟩
    · have HE := Lib.hid (show cmpI a b = 0 by unfold cmpI; rw [if_neg h, if_neg h2])
      go_enter Try.func38, Try.ntmps38
      go_wp2_with (first | (go_at_call 61; refine (HNA.out a _).mono ?_; rintro e w1 ⟨rfl, rfl⟩) | (go_at_call 61; refine (HNA.out b _).mono ?_; rintro e w1 ⟨rfl, rfl⟩))
      go_ret
      exact ⟨by rw [HE.out]; rfl, rfl⟩
set_option maxRecDepth 100000 in
set_option maxHeartbeats 16000000 in
theorem or_any (g c : Nat) (a b : Int) (w : World) (h0 : w.cell? ⟨g, 0, none⟩ = some (.int .i64 a)) (h1 : w.cell? ⟨g, 1, none⟩ = some (.int .i64 b)) :
    Calls Try.prog 37 #[.slice (some ⟨g, 0, none⟩) 2 c] w fun e w' => e = .returned (.int .i64 (orI a b)) ∧ w = w' := by
  obtain ⟨o, ho⟩ : ∃ o, o = orI a b := ⟨_, rfl⟩
  rw [← ho]
  unfold orI at ho
  have HO := Lib.hid ho
  clear ho
  go_enter Try.func37, Try.ntmps37
  go_upto_region 3 with fail
  go_loopw [8] (fun vi wr => ∃ k : Nat, k ≤ 2 ∧ vi = .int .i64 k ∧ Hid (OrSt k a b) ∧ wr = w) (fun vi _ => 2 - (intOf vi).toNat)
  case atStart => exact ⟨0, by omega, rfl, Lib.hid ⟨fun h => by omega, fun h => by omega⟩, rfl⟩
  case round =>
    obtain ⟨k, hk, rfl, HK, rfl⟩ := hrel
    rcases (by omega : k = 0 ∨ k = 1 ∨ k = 2) with rfl | rfl | rfl
    · by_cases e : a = 0
      · have HK2 := Lib.hid (show OrSt 1 a b from ⟨fun _ => e, fun h => by omega⟩)
        subst e
        go_wp2_with fail
        go_roundw
        case rel => exact ⟨1, by omega, by go_num, HK2, by first | rfl | trivial⟩
        case measure => simp [intOf]
      · have eb : (a != 0) = true := by simp [e]
        have HE := Lib.hid (show o = a by rw [HO.out, if_neg e])
        clear e
        go_wp2_with fail
        go_ret
        exact ⟨by rw [HE.out]; rfl, rfl⟩
    · have ha := HK.out.1 (by omega)
      by_cases e : b = 0
      · have HK2 := Lib.hid (show OrSt 2 a b from ⟨fun _ => ha, fun h => e⟩)
        subst e
        clear ha
        go_wp2_with fail
        go_roundw
        case rel => exact ⟨2, by omega, by go_num, HK2, by first | rfl | trivial⟩
        case measure => simp [intOf]
      · have eb : (b != 0) = true := by simp [e]
        have HE := Lib.hid (show o = b by rw [HO.out, if_pos ha])
        clear e ha
        go_wp2_with fail
        go_ret
        exact ⟨by rw [HE.out]; rfl, rfl⟩
    · have HE := Lib.hid (show o = 0 by rw [HO.out, if_pos (HK.out.1 (by omega)), HK.out.2 (by omega)])
      go_wp2_with fail
      go_ret
      exact ⟨by rw [HE.out]; rfl, rfl⟩
end Go.Proofs.Ytgaallkdfcckpaa
