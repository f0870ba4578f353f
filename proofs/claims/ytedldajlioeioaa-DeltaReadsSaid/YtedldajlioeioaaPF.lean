/- The document's steps and base. -/
import Derived.Test.YtedldajlioeioaaPE
import Derived.Deep.RegionHeld3
import Derived.Deep.AppendLies
namespace Go.Proofs.Ytedldajlioeioaa
open Go.RowKit
set_option linter.unusedSimpArgs false
set_option linter.unusedVariables false
theorem Try.info3 : (Try.prog.info? 3).map (fun i => (i.zero, i.size, i.bytes)) = some (some (.int .i64 0), 1, 8) := by kernel_rfl
def NumsP (w : World) (xs : List Int) (e : Ending) (w' : World) : Prop :=
  ∃ A c, e = .returned (.slice A xs.length c) ∧ Row w' A (xs.map (Value.int .i64)) ∧ xs.length ≤ c ∧ (A = none → c = 0) ∧ Below w.heap.size w w'
set_option maxRecDepth 100000 in
set_option maxHeartbeats 4000000 in
theorem rsteps_any (A : Option Addr) (n c : Nat) (L : List Int) (w : World) (hA : Row w A (L.map (Value.int .i64))) (hz : n = L.length) (hn : n ≤ 70000) :
    Calls Try.prog 20 #[.slice A n c] w (NumsP w (stepsZ L)) := by
  obtain ⟨i0, hi0, hz0, hz1, hz2⟩ := info_parts Try.info3
  have HA := Lib.hid hA
  have HZ := Lib.hid hz
  clear hA hz
  go_enter Try.func20, Try.ntmps20
  go_wp2_with fail
  go_loopw [3, 4] (fun v i wr => ∃ k : Nat, k ≤ n - 1 ∧ i = .int .i64 (k + 1 : Nat) ∧ Hid (wr.ownsRow w.heap.size 3 1 v k (((stepsZ L).take k).map (Value.int .i64))) ∧ Hid (Below w.heap.size w wr)) (fun _ i _ => n - (intOf i).toNat)
  case atStart => exact ⟨0, Nat.zero_le _, rfl, Lib.hid (World.ownsRow_nil _ _ _ _), Lib.hid (Below.refl _ _)⟩
  case round =>
    obtain ⟨k, hk, rfl, HO, HB⟩ := hrel
    obtain ⟨k1, hk1⟩ : ∃ k1, k1 = k + 1 := ⟨_, rfl⟩
    rw [← hk1]
    by_cases hlt : k1 < n
    · have hkz : k + 1 < L.length := by have := HZ.out; omega
      have hrw : Row wr A (L.map (Value.int .i64)) := HA.out.keep (Nat.le_refl _) HB.out
      obtain ⟨b, off, hA', c0⟩ := hrw.cell (i := k) (by omega)
      obtain ⟨b2, off2, hA2, c1⟩ := hrw.cell hkz
      rw [hA'] at hA2
      obtain ⟨rfl, rfl⟩ : b = b2 ∧ off = off2 := by cases hA2; exact ⟨rfl, rfl⟩
      obtain ⟨p, hp⟩ : ∃ p, L[k]? = some p := ⟨_, List.getElem?_eq_getElem (by omega)⟩
      obtain ⟨y, hy⟩ : ∃ y, L[k + 1]? = some y := ⟨_, List.getElem?_eq_getElem hkz⟩
      obtain ⟨s, hs⟩ : ∃ s, s = wrap64 (y - p) := ⟨_, rfl⟩
      have hk2 : (k1 : Int) < (n : Int) := by omega
      have hk0 : (0 : Int) ≤ (k1 : Int) := by omega
      have hkm : IntKind.i64.wrap ((k1 : Int) - 1) = (k : Int) := by rw [IntWalk.i64_in _ (by omega)]; omega
      have hks : (k : Int) < (n : Int) := by omega
      have HK1 := Lib.hid hk1
      rw [show L[k] = p from Option.some.inj ((List.getElem?_eq_getElem (by omega)).symm.trans hp)] at c0
      rw [show L[k + 1] = y from Option.some.inj ((List.getElem?_eq_getElem hkz).symm.trans hy), ← hk1] at c1
      have hws : IntKind.i64.wrap (y - p) = s := by rw [hs]; exact IntWalk.i64_left _
      have HTK := Lib.hid (show (stepsZ L).take (k + 1) = (stepsZ L).take k ++ [s] by
        have hk3 : k < (stepsZ L).length := by rw [steps_length]; have := HZ.out; omega
        rw [take_snoc _ k hk3]
        congr 2
        have h1 := steps_get L k hkz
        rw [List.getElem?_eq_getElem hk3] at h1
        rw [Option.some.inj h1, hs]
        congr 2
        · exact Option.some.inj ((List.getElem?_eq_getElem hkz).symm.trans hy)
        · exact Option.some.inj ((List.getElem?_eq_getElem (by omega)).symm.trans hp))
      have hown := HO.out
      have HBB := HB
      clear hrw hp hy hs hk1 hA2
      subst hA'
      have hnb : ∀ g, u3.ownBlock = some g → b ≠ g := fun g hg e => by
        have h1 := (hown.lt g hg).1
        have h2 : b < w.heap.size := by
          obtain ⟨b3, off3, e3, c3⟩ := HA.out.cell (i := k) (by omega)
          cases e3
          exact lt_of_cell c3
        omega
      have ag : some b ≠ u3.ownBlock := fun e => hnb b e.symm rfl
      have hbw : b < wr.heap.size := lt_of_cell c0
      have HAG := Lib.hid ag
      have HCA := Lib.hid (show ∀ o : Obj, (wr.alloc o).drew.cell? ⟨b, off + k, none⟩ = some (.int .i64 p) ∧ (wr.alloc o).drew.cell? ⟨b, off + k1, none⟩ = some (.int .i64 y) from fun o =>
        ⟨(((Below.refl _ wr).alloc (Nat.le_refl _) o).drew.cell (p := ⟨b, off + k, none⟩) hbw).trans c0, (((Below.refl _ wr).alloc (Nat.le_refl _) o).drew.cell (p := ⟨b, off + k1, none⟩) hbw).trans c1⟩)
      clear hnb ag
      go_wp2_with fail
      go_region_held3 (fun w' => w'.cell? ⟨b, off + k, none⟩ = some (.int .i64 p) ∧ w'.cell? ⟨b, off + k1, none⟩ = some (.int .i64 y))
        (first
          | go_keep
          | exact ⟨by rw [hgrow.cell_far _ (by simp; omega) HAG.out]; exact (HCA.out _).1, by rw [hgrow.cell_far _ (by simp; omega) HAG.out]; exact (HCA.out _).2⟩)
        ((refine step_append_lies _ (by rfl) _ _ _ (by rfl) w.heap.size 3 i0 _ 1 8 Try.underlying22 hi0 hz0 hz1 hz2 rfl (by omega) u3 k _ (by rfl) ((hown.alloc _).drew)
            ⟨wr.heap.size, 0, none⟩ 1 1 [.int .i64 s] (by rfl) (by rfl) (World.news_of_block (cs := #[.int .i64 s]) (t := 3) (fr := (0, 0)) (heap_alloc_new wr _)) (by simp [Value.oneCell'])
            (by omega) (by unfold maxLen; omega) (by omega) (by have := HB.out.size; simp; omega) (wr.heap.size + 1) (by simp) ?_; intro gg cap2 w3 hown' hgrow hat hlt9))
      have HB3 := Lib.hid (show Below w.heap.size w w3 from by first | exact (bpush HB.out _).drew.grown hgrow (by have := HB.out.size; simp; omega) (fun k hk => (hown.lt k hk).1) | exact (bpush HB.out _).grown hgrow (by have := HB.out.size; simp; omega) (fun k hk => (hown.lt k hk).1))
      have HO3 := Lib.hid (show w3.ownsRow w.heap.size 3 1 (.slice (some ⟨gg, 0, none⟩) (k + 1) cap2) (k + 1) (((stepsZ L).take (k + 1)).map (Value.int .i64)) by rw [HTK.out, List.map_append]; simpa using hown')
      clear hown' hgrow hown hkm hws c0 c1 hat hlt9
      go_wp2
      go_roundw
      case rel => exact ⟨k + 1, by have := HK1.out; omega, by rw [← HK1.out]; go_num, HO3, HB3⟩
      case measure => simp [intOf]; omega
    · have hge : ¬ (k1 : Int) < (n : Int) := by omega
      have hkk : k = (stepsZ L).length := by rw [steps_length]; have := HZ.out; omega
      have HO2 := Lib.hid (show wr.ownsRow w.heap.size 3 1 u3 (stepsZ L).length ((stepsZ L).map (Value.int .i64)) by
        have h := HO.out
        rw [List.take_of_length_le (by omega), hkk] at h; exact h)
      clear hk1 hkk
      go_wp2_with fail
      go_ret
      obtain ⟨A4, c4, rfl, hr, hc, hn⟩ := own_slice HO2.out
      exact ⟨A4, c4, rfl, hr, hc, hn, HB.out⟩
set_option maxRecDepth 100000 in
set_option maxHeartbeats 4000000 in
theorem rbase_any (A : Option Addr) (n c : Nat) (L : List Int) (w : World) (hA : Row w A (L.map (Value.int .i64))) (hz : n = L.length) (hn : n ≤ 70000) :
    Calls Try.prog 21 #[.slice A n c] w fun e w' => e = .returned (.int .i64 (leastZ L)) ∧ w = w' := by
  have HA := Lib.hid hA
  have HZ := Lib.hid hz
  clear hA
  by_cases h0 : n = 0
  · subst h0
    have : L = [] := List.length_eq_zero_iff.1 hz.symm
    subst this
    clear hz
    go_enter Try.func21, Try.ntmps21
    go_wp2_with fail
    go_ret
    exact ⟨rfl, rfl⟩
  · have hL0 : 0 < L.length := by omega
    obtain ⟨b, off, hA', c0⟩ := HA.out.cell hL0
    obtain ⟨a, ha⟩ : ∃ a, L[0]? = some a := ⟨_, List.getElem?_eq_getElem hL0⟩
    rw [show L[0] = a from Option.some.inj ((List.getElem?_eq_getElem hL0).symm.trans ha), Nat.add_zero] at c0
    have HH := Lib.hid ha
    have hn0 : ((n : Int) == 0) = false := by simp; omega
    have hn1 : ¬ (n : Int) = 0 := by omega
    have hn2 : (0 : Int) < (n : Int) := by omega
    clear hz ha
    subst hA'
    go_enter Try.func21, Try.ntmps21
    go_wp2_with fail
    go_loop [3, 4] (fun v i => ∃ (k : Nat) (x : Int), 1 ≤ k ∧ k ≤ n ∧ i = .int .i64 k ∧ v = .int .i64 x ∧ Hid (x = leastZ (L.take k))) (fun _ i => n - (intOf i).toNat)
    case atStart => exact ⟨1, a, by omega, by omega, rfl, rfl, Lib.hid (by
      have h := HH.out
      cases L with
      | nil => simp at h
      | cons z L => simp at h; subst h; rfl)⟩
    case round =>
      obtain ⟨k, x, hk1, hk, rfl, rfl, HX⟩ := hrel
      by_cases hlt : k < n
      · have hkz : k < L.length := by have := HZ.out; omega
        obtain ⟨b2, off2, hA2, c1⟩ := HA.out.cell hkz
        obtain ⟨rfl, rfl⟩ : b = b2 ∧ off = off2 := by cases hA2; exact ⟨rfl, rfl⟩
        obtain ⟨y, hy⟩ : ∃ y, L[k]? = some y := ⟨_, List.getElem?_eq_getElem hkz⟩
        rw [show L[k] = y from Option.some.inj ((List.getElem?_eq_getElem hkz).symm.trans hy)] at c1
        have hki : (k : Int) < (n : Int) := by omega
        have hk0 : (0 : Int) ≤ (k : Int) := by omega
        have HN := Lib.hid (show min x y = leastZ (L.take (k + 1)) by
          rw [take_snoc _ k hkz, least_snoc (List.ne_nil_of_length_pos (by rw [List.length_take]; omega)), ← HX.out]
          congr 1
          exact (Option.some.inj ((List.getElem?_eq_getElem hkz).symm.trans hy)).symm)
        clear hy hA2
        by_cases hxy : y < x
        · have hmin : min x y = y := by omega
          have hd : decide (y < x) = true := by simpa using hxy
          have HY := Lib.hid (show y = leastZ (L.take (k + 1)) by rw [← HN.out]; omega)
          clear HN
          go_wp2_with fail
          go_round
          case rel => exact ⟨k + 1, y, by omega, by omega, by go_num, by first | rfl | (simp; omega), HY⟩
          case measure => simp [intOf]; omega
        · have hmin : min x y = x := by omega
          have hd : decide (y < x) = false := by simpa using hxy
          have HY := Lib.hid (show x = leastZ (L.take (k + 1)) by rw [← HN.out]; omega)
          clear HN
          go_wp2_with fail
          go_round
          case rel => exact ⟨k + 1, x, by omega, by omega, by go_num, by first | rfl | (simp; omega), HY⟩
          case measure => simp [intOf]; omega
      · have hki : ¬ (k : Int) < (n : Int) := by omega
        have HY := Lib.hid (show x = leastZ L by rw [HX.out, List.take_of_length_le (by have := HZ.out; omega)])
        clear HX
        go_wp2_with fail
        go_ret
        exact ⟨by rw [← HY.out]; rfl, rfl⟩
end Go.Proofs.Ytedldajlioeioaa
