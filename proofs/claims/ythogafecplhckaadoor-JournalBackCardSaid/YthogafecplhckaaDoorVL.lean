/- What a crash and a copy make of a file. -/
import Derived.Test.YthogafecplhckaaDoorVK
namespace Go.Proofs.YthogafecplhckaaDoor
open Go.RowKit Go.Maps Go.Shelf
set_option linter.unusedSimpArgs false
set_option linter.unusedVariables false
def kOf (t : Int) (n safe : Nat) : Nat := safe + min t.toNat (n - safe)
theorem enter36 : ∀ args w, (callFunc 38 args).run Tryd.prog w = .ok (.enter 38 args) w := fun args w => by kernel_rfl
theorem enter37 : ∀ args w, (callFunc 37 args).run Tryd.prog w = .ok (.enter 37 args) w := fun args w => by kernel_rfl
set_option maxRecDepth 100000 in
set_option maxHeartbeats 4000000 in
theorem crash1_any (kb : Nat) (t : Int) (A : Option Addr) (n c safe : Nat) (w : World) (hk : w.cell? ⟨kb, 0, none⟩ = some (.int .i64 t)) (hs : safe ≤ n) (hc : n ≤ c) (ha : A = none → c = 0) (hn : n ≤ 16777216) (h1 : -9223372036854775808 ≤ t) (h2 : t ≤ 9223372036854775807) :
    Calls Tryd.prog 38 (#[.agg #[.slice A n c, .int .i64 safe]] ++ #[.pointer (some ⟨kb, 0, none⟩)]) w fun e w' => e = .returned (.agg #[.slice A (kOf t n safe) c, .int .i64 (kOf t n safe : Int)]) ∧ Below w.heap.size w w' := by
  show Calls Tryd.prog 38 #[.agg #[.slice A n c, .int .i64 safe], .pointer (some ⟨kb, 0, none⟩)] w _
  obtain ⟨m, hm⟩ : ∃ m, m = kOf t n safe := ⟨_, rfl⟩
  rw [← hm]
  obtain ⟨w1, hw1⟩ : ∃ w1, w1 = (w.alloc (.cells #[.slice A n c, .int .i64 safe] 70)).alloc (.cells #[.slice none 0 0, .int .i64 0] 70) := ⟨_, rfl⟩
  have hb1 : Below w.heap.size w w1 := by rw [hw1]; exact bpush (bpush (Below.refl _ _) _) _
  have hkb : w1.cell? ⟨kb, 0, none⟩ = some (.int .i64 t) := cell_on hb1 hk
  have HB1 := Lib.hid hb1
  have HM := Lib.hid hm
  have HK2 := Lib.hid (show Blk w1 w.heap.size 70 #[.slice A n c, .int .i64 safe] by rw [hw1]; exact (Blk.new _ _ _).alloc _)
  have HK3 := Lib.hid (show Blk w1 (w.heap.size + 1) 70 #[.slice none 0 0, .int .i64 0] by
    rw [hw1]; have := Blk.new (w.alloc (.cells #[.slice A n c, .int .i64 safe] 70)) 70 #[.slice none 0 0, .int .i64 0]; simpa using this)
  have HW1 := Lib.hid hw1
  have b0 := HK2.out.cell 0
  have b1 := HK2.out.cell 1
  have z0 := HK3.out.cell 0
  have z1 := HK3.out.cell 1
  have f0 := HK3.out.frozen 0
  have f1 := HK3.out.frozen 1
  simp at b0 b1 z0 z1
  obtain ⟨w3, hw3⟩ : ∃ w3, w3 = (w1.setCell ⟨w.heap.size + 1, 0, none⟩ (.slice A m c)).setCell ⟨w.heap.size + 1, 1, none⟩ (.int .i64 m) := ⟨_, rfl⟩
  have HK4 := Lib.hid (show Blk w3 (w.heap.size + 1) 70 #[.slice A m c, .int .i64 m] by rw [hw3]; exact (HK3.out.set_ 0 _).set_ 1 _)
  have HB3 := Lib.hid (show Below w.heap.size w w3 by rw [hw3]; exact bset (bset hb1 (by omega) _) (by omega) _)
  have q0 := HK4.out.cell 0
  have q1 := HK4.out.cell 1
  simp at q0 q1
  have HQ := Lib.hid (And.intro q0 q1)
  have HW3 := Lib.hid hw3
  obtain ⟨d, hdd⟩ : ∃ d, d = n - safe := ⟨_, rfl⟩
  have hd : (n : Int) - (safe : Int) = (d : Int) := by omega
  have hmn : m ≤ n := by rw [hm]; unfold kOf; omega
  have hmc : m ≤ c := by omega
  have hmm : (safe : Int) + min (max t 0) (d : Int) = (m : Int) := by rw [hm]; unfold kOf; omega
  have hsd : safe + d ≤ 16777216 := by omega
  clear hw1 hb1 hm hk hw3 q0 q1 hdd
  go_enter Tryd.func38, Tryd.ntmps38
  go_upto_region 1 with fail
  rw [← HW1.out]
  go_wp2_with fail
  rw [← HW3.out]
  obtain ⟨q0, q1⟩ := HQ.out
  exact bodyPost_ret (v := .agg #[.slice A m c, .int .i64 m]) (by simp [results, Tryd.results38, go_sem, q0, q1]) rfl ⟨rfl, HB3.out⟩
end Go.Proofs.YthogafecplhckaaDoor
