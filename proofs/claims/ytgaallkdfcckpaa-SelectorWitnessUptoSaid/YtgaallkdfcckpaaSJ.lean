/- The closure that puts plans in order (36). -/
import Derived.Test.YtgaallkdfcckpaaSI
import Derived.BigQuiet
import Derived.Deep.RegionHeld3
namespace Go.Proofs.Ytgaallkdfcckpaa
open Go.RowKit Go.Maps Go.Lib Go.Shelf
set_option linter.unusedSimpArgs false
set_option linter.unusedVariables false
set_option maxRecDepth 100000 in
set_option maxHeartbeats 16000000 in
theorem ord36 (a b : XZ) (w : World) : Calls Try.prog 36 #[.agg #[.int .i64 a.frm, .int .i64 a.upto, .int .i64 a.tier, .int .i64 a.proj, .int .i64 a.rows], .agg #[.int .i64 b.frm, .int .i64 b.upto, .int .i64 b.tier, .int .i64 b.proj, .int .i64 b.rows]] w fun e w' => e = .returned (.int .i64 (cmpX a b)) ∧ Below w.heap.size w w' := by
  obtain ⟨wa, hwa⟩ : ∃ wa, wa = w.alloc (.cells #[.int .i64 a.frm, .int .i64 a.upto, .int .i64 a.tier, .int .i64 a.proj, .int .i64 a.rows] 49) := ⟨_, rfl⟩
  obtain ⟨w1, hw1⟩ : ∃ w1, w1 = wa.alloc (.cells #[.int .i64 b.frm, .int .i64 b.upto, .int .i64 b.tier, .int .i64 b.proj, .int .i64 b.rows] 49) := ⟨_, rfl⟩
  have ba : Below w.heap.size w wa := by rw [hwa]; exact bpush (Below.refl _ _) _
  have bb : Below wa.heap.size wa w1 := by rw [hw1]; exact bpush (Below.refl _ _) _
  have kA : Blk wa w.heap.size 49 #[.int .i64 a.frm, .int .i64 a.upto, .int .i64 a.tier, .int .i64 a.proj, .int .i64 a.rows] := by rw [hwa]; exact Blk.new _ _ _
  have kB : Blk w1 wa.heap.size 49 #[.int .i64 b.frm, .int .i64 b.upto, .int .i64 b.tier, .int .i64 b.proj, .int .i64 b.rows] := by rw [hw1]; exact Blk.new _ _ _
  have sza : wa.heap.size = w.heap.size + 1 := by rw [hwa]; simp
  rw [sza] at kB
  have kA := kA.below bb
  have HB1 := Lib.hid (bthen ba bb)
  obtain ⟨G, hG⟩ : ∃ G, G = w.heap.size := ⟨_, rfl⟩
  obtain ⟨H, hH⟩ : ∃ H, H = w.heap.size + 1 := ⟨_, rfl⟩
  rw [← hG] at kA
  rw [← hH] at kB
  obtain ⟨ra, hra⟩ : ∃ y, y = a.rows := ⟨_, rfl⟩
  obtain ⟨rb, hrb⟩ : ∃ y, y = b.rows := ⟨_, rfl⟩
  obtain ⟨pa, hpa⟩ : ∃ y, y = a.proj := ⟨_, rfl⟩
  obtain ⟨pb, hpb⟩ : ∃ y, y = b.proj := ⟨_, rfl⟩
  have HCE := Lib.hid (fun W (hW : Below w1.heap.size w1 W) => show W.cell? ⟨G, 4, none⟩ = some (.int .i64 ra) ∧ W.cell? ⟨H, 4, none⟩ = some (.int .i64 rb) ∧ W.cell? ⟨G, 3, none⟩ = some (.int .i64 pa) ∧ W.cell? ⟨H, 3, none⟩ = some (.int .i64 pb) from by
    rw [hra, hrb, hpa, hpb]
    have h1 := xz_cells (kA.below hW)
    have h2 := xz_cells (kB.below hW)
    exact ⟨h1.2.2.2.2, h2.2.2.2.2, h1.2.2.2.1, h2.2.2.2.1⟩)
  obtain ⟨c1, hc1⟩ : ∃ c, c = cmpI ra rb := ⟨_, rfl⟩
  obtain ⟨c2, hc2⟩ : ∃ c, c = cmpI pa pb := ⟨_, rfl⟩
  have HC1 := Lib.hid (fun W => show Calls Try.prog 38 #[.int .i64 ra, .int .i64 rb] W fun e w' => e = .returned (.int .i64 c1) ∧ W = w' from by rw [hc1]; exact cmp_any ra rb W)
  have HC2 := Lib.hid (fun W => show Calls Try.prog 38 #[.int .i64 pa, .int .i64 pb] W fun e w' => e = .returned (.int .i64 c2) ∧ W = w' from by rw [hc2]; exact cmp_any pa pb W)
  have HOR := Lib.hid (fun W (g : Nat) (hg : Blk W g 3 #[.int .i64 c1, .int .i64 c2]) => or_any g 2 c1 c2 W (by rw [hg.cell 0]; rfl) (by rw [hg.cell 1]; rfl))
  have HE := Lib.hid (show cmpX a b = orI c1 c2 by rw [hc1, hc2, hra, hrb, hpa, hpb]; rfl)
  have HW1 := Lib.hid (show w1 = (w.alloc (.cells #[.int .i64 a.frm, .int .i64 a.upto, .int .i64 a.tier, .int .i64 a.proj, .int .i64 a.rows] 49)).alloc (.cells #[.int .i64 b.frm, .int .i64 b.upto, .int .i64 b.tier, .int .i64 b.proj, .int .i64 b.rows] 49) by rw [hw1, hwa])
  have HGH := Lib.hid (And.intro hG hH)
  obtain ⟨oo, hoo⟩ : ∃ o, o = orI c1 c2 := ⟨_, rfl⟩
  rw [← hoo] at HOR HE
  have HBK := Lib.hid (show Blk (w1.alloc (.cells #[.int .i64 c1, .int .i64 c2] 3)).drew w1.heap.size 3 #[.int .i64 c1, .int .i64 c2] from heap_alloc_new w1 _)
  obtain ⟨d0, d1, d2, d3⟩ := HCE.out w1 (Below.refl _ _)
  clear hwa hw1 ba bb kA kB sza hG hH hra hrb hpa hpb hc1 hc2 hoo
  go_enter Try.func36, Try.ntmps36
  go_upto_region 1 with fail
  rw [← HW1.out, ← HGH.out.2, ← HGH.out.1]
  go_region_held3 (fun w' => (w'.cell? ⟨G, 4, none⟩ = some (.int .i64 ra) ∧ w'.cell? ⟨H, 4, none⟩ = some (.int .i64 rb) ∧ w'.cell? ⟨G, 3, none⟩ = some (.int .i64 pa) ∧ w'.cell? ⟨H, 3, none⟩ = some (.int .i64 pb)) ∧ Below w1.heap.size w1 w')
    (first
      | exact ⟨HCE.out _ (below_drewN (Below.refl _ _) 1), below_drewN (Below.refl _ _) 1⟩
      | exact ⟨HCE.out _ (below_drewN (bpush (Below.refl _ _) _) 1), below_drewN (bpush (Below.refl _ _) _) 1⟩
      | exact ⟨HCE.out _ (bpush (below_drewN (Below.refl _ _) 1) _), bpush (below_drewN (Below.refl _ _) 1) _⟩)
    (first
      | (go_at_call 37; refine (HOR.out _ _ HBK.out).mono ?_; rintro e w7 ⟨rfl, rfl⟩)
      | (go_at_call 38; with_reducible refine (HC1.out _).mono ?_; rintro e w7 ⟨rfl, rfl⟩)
      | (go_at_call 38; with_reducible refine (HC2.out _).mono ?_; rintro e w7 ⟨rfl, rfl⟩))
  go_wp2_with fail
  go_ret
  exact ⟨(by rw [HE.out]; rfl), HB1.out.trans ((below_drewN (bpush (Below.refl _ _) _) 1).mono HB1.out.size)⟩
def minX (m : XZ) (L : List XZ) : XZ := L.foldl (fun m y => if cmpX y m < 0 then y else m) m
theorem minX_snoc (m : XZ) (L : List XZ) (y : XZ) : minX m (L ++ [y]) = if cmpX y (minX m L) < 0 then y else minX m L := by unfold minX; rw [List.foldl_append]; rfl
def MinPost (w : World) (x0 : XZ) (L : List XZ) (e : Ending) (w' : World) : Prop := (∃ m : XZ, m = minX x0 L ∧ e = .returned (.agg #[.int .i64 m.frm, .int .i64 m.upto, .int .i64 m.tier, .int .i64 m.proj, .int .i64 m.rows])) ∧ Below w.heap.size w w'
set_option maxRecDepth 100000 in
set_option maxHeartbeats 16000000 in
theorem min_any (A : Option Addr) (n c : Nat) (x0 : XZ) (L : List XZ) (w : World) (hA : Row w A (cellsX (x0 :: L))) (hn : n = L.length + 1) (hm : n ≤ 1000000) :
    Calls Try.prog 35 #[.slice A n c, .func (.func 36) #[] #[]] w (MinPost w x0 L) := by
  obtain ⟨b, off, hAe, q0, q1, q2, q3, q4⟩ := x_cells hA (k := 0) (by simp)
  subst hAe
  simp only [List.getElem_cons_zero, Nat.zero_mul, Nat.add_zero, Nat.zero_add] at q0 q1 q2 q3 q4
  obtain ⟨wa, hwa⟩ : ∃ wa, wa = w.alloc (.cells #[.int .i64 0, .int .i64 0, .int .i64 0, .int .i64 0, .int .i64 0] 49) := ⟨_, rfl⟩
  obtain ⟨w1, hw1⟩ : ∃ w1, w1 = wa.alloc (.cells #[.int .i64 x0.frm, .int .i64 x0.upto, .int .i64 x0.tier, .int .i64 x0.proj, .int .i64 x0.rows] 49) := ⟨_, rfl⟩
  have ba : Below w.heap.size w wa := by rw [hwa]; exact bpush (Below.refl _ _) _
  have bb : Below wa.heap.size wa w1 := by rw [hw1]; exact bpush (Below.refl _ _) _
  have kA : Blk wa w.heap.size 49 #[.int .i64 0, .int .i64 0, .int .i64 0, .int .i64 0, .int .i64 0] := by rw [hwa]; exact Blk.new _ _ _
  have kB : Blk w1 wa.heap.size 49 #[.int .i64 x0.frm, .int .i64 x0.upto, .int .i64 x0.tier, .int .i64 x0.proj, .int .i64 x0.rows] := by rw [hw1]; exact Blk.new _ _ _
  have sza : wa.heap.size = w.heap.size + 1 := by rw [hwa]; simp
  rw [sza] at kB
  have kA := kA.below bb
  have r0 := cell_on ba q0
  have r1 := cell_on ba q1
  have r2 := cell_on ba q2
  have r3 := cell_on ba q3
  have r4 := cell_on ba q4
  obtain ⟨G, hG⟩ : ∃ G, G = w.heap.size := ⟨_, rfl⟩
  obtain ⟨H, hH⟩ : ∃ H, H = w.heap.size + 1 := ⟨_, rfl⟩
  rw [← hG] at kA
  rw [← hH] at kB
  have HB1 := Lib.hid (bthen ba bb)
  have HKA := Lib.hid kA
  have HKB := Lib.hid kB
  have HWA := Lib.hid hwa
  have HSA := Lib.hid sza
  have HW1 := Lib.hid hw1
  have HGH := Lib.hid (show G = w.heap.size ∧ H = w.heap.size + 1 ∧ G ≠ H ∧ w.heap.size ≤ G ∧ w.heap.size ≤ H by omega)
  have HA := Lib.hid hA
  have HN := Lib.hid hn
  have hn1 : ¬ (n : Int) < 1 := by omega
  have hn2 : 1 ≤ n := by omega
  have hn3 : (0 : Int) < (n : Int) := by omega
  obtain ⟨mm, hmm⟩ : ∃ m, m = minX x0 L := ⟨_, rfl⟩
  have HMM := Lib.hid hmm
  clear hwa hw1 ba bb kA kB sza hG hH hA hn hmm q0 q1 q2 q3 q4
  go_enter Try.func35, Try.ntmps35
  go_upto_region 3 with fail
  rw [← HWA.out, ← HGH.out.1]
  go_upto_region 4 with fail
  rw [← HW1.out, HSA.out, ← HGH.out.2.1]
  clear r0 r1 r2 r3 r4
  go_upto_region 5 with fail
  go_loopw [6] (fun vi wr => ∃ (k : Nat) (m : XZ), k ≤ n ∧ 1 ≤ k ∧ vi = .int .i64 k ∧ Hid (m = minX x0 (L.take (k - 1))) ∧ Hid (Blk wr G 49 #[.int .i64 0, .int .i64 0, .int .i64 0, .int .i64 0, .int .i64 0]) ∧ Hid (Blk wr H 49 #[.int .i64 m.frm, .int .i64 m.upto, .int .i64 m.tier, .int .i64 m.proj, .int .i64 m.rows]) ∧ Hid (Below w.heap.size w wr)) (fun vi _ => n - (intOf vi).toNat)
  case atStart => exact ⟨1, x0, hn2, Nat.le_refl _, rfl, Lib.hid (by simp [minX]), HKA, HKB, HB1⟩
  case round =>
    obtain ⟨k, m, hk, hk1, rfl, HM, HKA, HKB, HB⟩ := hrel
    obtain ⟨wo, rfl⟩ : ∃ wo : World, wo = wr := ⟨_, rfl⟩
    by_cases hlt : k < n
    case neg =>
      obtain rfl : k = n := by omega
      have hge : ¬ (k : Int) < (k : Int) := by omega
      have HE := Lib.hid (show m = mm by rw [HM.out, HMM.out, List.take_of_length_le (by have := HN.out; omega)])
      obtain ⟨m0, m1, m2, m3, m4⟩ := xz_cells HKB.out
      have g0 := HKA.out.cell 0
      have g1 := HKA.out.cell 1
      have g2 := HKA.out.cell 2
      have g3 := HKA.out.cell 3
      have g4 := HKA.out.cell 4
      have f0 := HKA.out.frozen 0
      have f1 := HKA.out.frozen 1
      have f2 := HKA.out.frozen 2
      have f3 := HKA.out.frozen 3
      have f4 := HKA.out.frozen 4
      simp at g0 g1 g2 g3 g4
      have HF := Lib.hid (show Blk (((((wo.setCell ⟨G, 0, none⟩ (.int .i64 m.frm)).setCell ⟨G, 1, none⟩ (.int .i64 m.upto)).setCell ⟨G, 2, none⟩ (.int .i64 m.tier)).setCell ⟨G, 3, none⟩ (.int .i64 m.proj)).setCell ⟨G, 4, none⟩ (.int .i64 m.rows)) G 49 #[.int .i64 m.frm, .int .i64 m.upto, .int .i64 m.tier, .int .i64 m.proj, .int .i64 m.rows] from by
        have := ((((HKA.out.set_ 0 (.int .i64 m.frm)).set_ 1 (.int .i64 m.upto)).set_ 2 (.int .i64 m.tier)).set_ 3 (.int .i64 m.proj)).set_ 4 (.int .i64 m.rows)
        simpa using this)
      have HBF := Lib.hid (show Below w.heap.size w (((((wo.setCell ⟨G, 0, none⟩ (.int .i64 m.frm)).setCell ⟨G, 1, none⟩ (.int .i64 m.upto)).setCell ⟨G, 2, none⟩ (.int .i64 m.tier)).setCell ⟨G, 3, none⟩ (.int .i64 m.proj)).setCell ⟨G, 4, none⟩ (.int .i64 m.rows)) from bset (bset (bset (bset (bset HB.out HGH.out.2.2.2.1 _) HGH.out.2.2.2.1 _) HGH.out.2.2.2.1 _) HGH.out.2.2.2.1 _) HGH.out.2.2.2.1 _)
      clear hlt
      go_wp2_with fail
      obtain ⟨e0, e1, e2, e3, e4⟩ := xz_cells HF.out
      refine bodyPost_ret (v := .agg #[.int .i64 m.frm, .int .i64 m.upto, .int .i64 m.tier, .int .i64 m.proj, .int .i64 m.rows]) (by simp [results, Try.results35, go_sem, e0, e1, e2, e3, e4]) rfl ⟨⟨m, by rw [← HMM.out]; exact HE.out, rfl⟩, HBF.out⟩
    case pos =>
    obtain ⟨j, rfl⟩ : ∃ j, k = j + 1 := ⟨k - 1, by omega⟩
    have hjz : j < L.length := by have := HN.out; omega
    have hki : ((j + 1 : Nat) : Int) < (n : Int) := by omega
    have hki2 : (j : Int) + 1 < (n : Int) := by omega
    have hk0 : (0 : Int) ≤ (j : Int) + 1 := by omega
    obtain ⟨b', off', hAe, q0, q1, q2, q3, q4⟩ := x_cells (HA.out.keep (Nat.le_refl _) HB.out) (k := j + 1) (by simp; omega)
    cases hAe
    simp only [List.getElem_cons_succ] at q0 q1 q2 q3 q4
    obtain ⟨y, hy⟩ : ∃ y, y = L[j] := ⟨_, rfl⟩
    rw [← hy] at q0 q1 q2 q3 q4
    have HSN := Lib.hid (show minX x0 (L.take (j + 1)) = if cmpX y m < 0 then y else m by
      rw [take_snoc L j hjz, minX_snoc, ← hy, HM.out]; rfl)
    obtain ⟨cr, hcr⟩ : ∃ c, c = cmpX y m := ⟨_, rfl⟩
    have HCE := Lib.hid (fun W (hW : Below wo.heap.size wo W) => And.intro (cell_on hW q0) (And.intro (cell_on hW q1) (And.intro (cell_on hW q2) (And.intro (cell_on hW q3) (And.intro (cell_on hW q4) (xz_cells (HKB.out.below hW)))))))
    have HOR := Lib.hid (fun W => ord36 y m W)
    rw [← hcr] at HOR HSN
    obtain ⟨m0, m1, m2, m3, m4⟩ := xz_cells HKB.out
    have HBR := Lib.hid (Below.refl wo.heap.size wo)
    have HYE := Lib.hid hy
    clear hy hcr hlt
    go_upto_region 7 with fail
    go_region_held3 (fun W => (W.cell? ⟨b, off + (j + 1) * 5, none⟩ = some (.int .i64 y.frm) ∧ W.cell? ⟨b, off + (j + 1) * 5 + 1, none⟩ = some (.int .i64 y.upto) ∧ W.cell? ⟨b, off + (j + 1) * 5 + 2, none⟩ = some (.int .i64 y.tier) ∧ W.cell? ⟨b, off + (j + 1) * 5 + 3, none⟩ = some (.int .i64 y.proj) ∧ W.cell? ⟨b, off + (j + 1) * 5 + 4, none⟩ = some (.int .i64 y.rows) ∧ W.cell? ⟨H, 0, none⟩ = some (.int .i64 m.frm) ∧ W.cell? ⟨H, 1, none⟩ = some (.int .i64 m.upto) ∧ W.cell? ⟨H, 2, none⟩ = some (.int .i64 m.tier) ∧ W.cell? ⟨H, 3, none⟩ = some (.int .i64 m.proj) ∧ W.cell? ⟨H, 4, none⟩ = some (.int .i64 m.rows)) ∧ Below wo.heap.size wo W)
      (first
        | exact ⟨HCE.out _ (below_drewN (Below.refl _ _) 1), below_drewN (Below.refl _ _) 1⟩
        | exact ⟨HCE.out _ hbz, hbz⟩)
      (first
        | (go_at_call 36; refine (HOR.out _).mono ?_; rintro e w7 ⟨rfl, hb⟩; have hbz : Below wo.heap.size wo w7 := (below_drewN (Below.refl _ _) 1).trans (hb.mono (Nat.le_refl _))))
    have HBZ := Lib.hid hbz
    clear hb hbz q0 q1 q2 q3 q4 m0 m1 m2 m3 m4
    have HKA7 := Lib.hid (HKA.out.below HBZ.out)
    have HKB7 := Lib.hid (HKB.out.below HBZ.out)
    have HB7 := Lib.hid (bthen HB.out HBZ.out)
    by_cases hc : cr < 0
    · have HS := Lib.hid (show y = minX x0 (L.take (j + 1 + 1 - 1)) by rw [show j + 1 + 1 - 1 = j + 1 by omega, HSN.out, if_pos hc])
      obtain ⟨q0, q1, q2, q3, q4, m0, m1, m2, m3, m4⟩ := HCE.out w7 HBZ.out
      have f0 := HKB7.out.frozen 0
      have f1 := HKB7.out.frozen 1
      have f2 := HKB7.out.frozen 2
      have f3 := HKB7.out.frozen 3
      have f4 := HKB7.out.frozen 4
      have HF := Lib.hid (show Blk (((((w7.setCell ⟨H, 0, none⟩ (.int .i64 y.frm)).setCell ⟨H, 1, none⟩ (.int .i64 y.upto)).setCell ⟨H, 2, none⟩ (.int .i64 y.tier)).setCell ⟨H, 3, none⟩ (.int .i64 y.proj)).setCell ⟨H, 4, none⟩ (.int .i64 y.rows)) H 49 #[.int .i64 y.frm, .int .i64 y.upto, .int .i64 y.tier, .int .i64 y.proj, .int .i64 y.rows] from by
        have := ((((HKB7.out.set_ 0 (.int .i64 y.frm)).set_ 1 (.int .i64 y.upto)).set_ 2 (.int .i64 y.tier)).set_ 3 (.int .i64 y.proj)).set_ 4 (.int .i64 y.rows)
        simpa using this)
      have HFA := Lib.hid (show Blk (((((w7.setCell ⟨H, 0, none⟩ (.int .i64 y.frm)).setCell ⟨H, 1, none⟩ (.int .i64 y.upto)).setCell ⟨H, 2, none⟩ (.int .i64 y.tier)).setCell ⟨H, 3, none⟩ (.int .i64 y.proj)).setCell ⟨H, 4, none⟩ (.int .i64 y.rows)) G 49 #[.int .i64 0, .int .i64 0, .int .i64 0, .int .i64 0, .int .i64 0] from ((((HKA7.out.far HGH.out.2.2.1 _).far HGH.out.2.2.1 _).far HGH.out.2.2.1 _).far HGH.out.2.2.1 _).far HGH.out.2.2.1 _)
      have HBF := Lib.hid (show Below w.heap.size w (((((w7.setCell ⟨H, 0, none⟩ (.int .i64 y.frm)).setCell ⟨H, 1, none⟩ (.int .i64 y.upto)).setCell ⟨H, 2, none⟩ (.int .i64 y.tier)).setCell ⟨H, 3, none⟩ (.int .i64 y.proj)).setCell ⟨H, 4, none⟩ (.int .i64 y.rows)) from bset (bset (bset (bset (bset HB7.out HGH.out.2.2.2.2 _) HGH.out.2.2.2.2 _) HGH.out.2.2.2.2 _) HGH.out.2.2.2.2 _) HGH.out.2.2.2.2 _)
      go_wp2_with fail
      go_roundw
      case rel => exact ⟨j + 1 + 1, y, by omega, by omega, by go_num, HS, HFA, HF, HBF⟩
      case measure => simp [intOf]; omega
    · have HS := Lib.hid (show m = minX x0 (L.take (j + 1 + 1 - 1)) by rw [show j + 1 + 1 - 1 = j + 1 by omega, HSN.out, if_neg hc])
      go_wp2_with fail
      go_roundw
      case rel => exact ⟨j + 1 + 1, m, by omega, by omega, by go_num, HS, HKA7, HKB7, HB7⟩
      case measure => simp [intOf]; omega
end Go.Proofs.Ytgaallkdfcckpaa
