/- SameBudget (13); the live question (10). -/
import Derived.Test.YtmmeekmiildliaaGreatDoorIN
import Derived.Test.YtmmeekmiildliaaGreatDoorIL
import Derived.Test.YtmmeekmiildliaaGreatDoorIG
namespace Go.Proofs.YtmmeekmiildliaaGreatDoor
open Go.RowKit
set_option linter.unusedSimpArgs false
set_option linter.unusedVariables false
set_option maxRecDepth 100000 in
set_option maxHeartbeats 4000000 in
theorem same_any (A B : Option Addr) (n c m d : Nat) (k1 k2 : Int) (La Lb : List Int) (w : World) (hA : Row w A (intsV La)) (hB : Row w B (intsV Lb)) (hn : n = La.length) (hm : m = Lb.length) (hn2 : n ≤ 1000000) (r : Bool) (hr : r = decide (k1 = k2 ∧ La = Lb)) :
    Calls Tryz.prog 13 #[.agg #[.int .i64 k1, .slice A n c], .agg #[.int .i64 k2, .slice B m d]] w fun e w' => e = .returned (.bool r) ∧ Below w.heap.size w w' := by
  obtain ⟨W0, hW0⟩ : ∃ W0, W0 = (w.alloc (.cells #[.int .i64 k1, .slice A n c] 27)).alloc (.cells #[.int .i64 k2, .slice B m d] 27) := ⟨_, rfl⟩
  have hb0 : Below w.heap.size w W0 := by rw [hW0]; exact bpush (bpush (Below.refl _ _) _) _
  have x0 : W0.cell? ⟨w.heap.size, 0, none⟩ = some (.int .i64 k1) := by rw [hW0]; exact cell_on (bpush (Below.refl _ _) _) (cell_made rfl rfl)
  have x1 : W0.cell? ⟨w.heap.size, 1, none⟩ = some (.slice A n c) := by rw [hW0]; exact cell_on (bpush (Below.refl _ _) _) (cell_made rfl rfl)
  have y0 : W0.cell? ⟨w.heap.size + 1, 0, none⟩ = some (.int .i64 k2) := by rw [hW0]; exact cell_made (by simp) rfl
  have y1 : W0.cell? ⟨w.heap.size + 1, 1, none⟩ = some (.slice B m d) := by rw [hW0]; exact cell_made (by simp) rfl
  obtain ⟨b, hb⟩ : ∃ b, b = decide (La = Lb) := ⟨_, rfl⟩
  have HI := Lib.hid ((refints_any A B n c m d La Lb W0 (hA.keep (Nat.le_refl _) hb0) (hB.keep (Nat.le_refl _) hb0) hn hm hn2 b hb).mono fun e w' ⟨he, m, hm⟩ => show e = Ending.returned (.bool b) ∧ Below W0.heap.size W0 w' from ⟨he, by rw [hm]; exact below_drewN (Below.refl _ _) m⟩)
  have HB0 := Lib.hid hb0
  have HR := Lib.hid (show r = (b && decide (k1 = k2)) by rw [hr, hb, Bool.and_comm, Bool.decide_and])
  have HW0 := Lib.hid hW0
  clear hA hB hn hm hr hb hW0 hb0
  go_enter Tryz.func13, Tryz.ntmps13
  go_upto_region 1 with fail
  rw [← HW0.out]
  clear HW0
  go_upto_region 2 with (go_at_call 33; refine HI.out.mono ?_; rintro e w1 ⟨rfl, hb1⟩)
  have x0 := cell_on hb1 x0
  have y0 := cell_on hb1 y0
  have HB1 := Lib.hid (bthen HB0.out hb1)
  clear hb1 HI
  cases b with
  | false =>
    obtain rfl : r = false := by rw [HR.out]; rfl
    go_wp2_with fail
    go_ret
    exact ⟨rfl, HB1.out⟩
  | true =>
    by_cases hk : k1 = k2
    · subst hk
      obtain rfl : r = true := by rw [HR.out]; simp
      have hd : (k1 == k1) = true := by simp
      go_wp2_with fail
      go_ret
      exact ⟨rfl, HB1.out⟩
    · obtain rfl : r = false := by rw [HR.out]; simp [hk]
      have hd : (k1 == k2) = false := by simpa using hk
      clear hk
      go_wp2_with fail
      go_ret
      exact ⟨rfl, HB1.out⟩
end Go.Proofs.YtmmeekmiildliaaGreatDoor
