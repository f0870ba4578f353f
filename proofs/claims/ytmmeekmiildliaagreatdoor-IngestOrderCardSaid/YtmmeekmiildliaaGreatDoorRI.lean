/- The shelf's insertion sort, laid at rows; SortStableFunc of few rows. -/
import Derived.Test.YtmmeekmiildliaaGreatDoorRH
import Derived.Shelf.SlSortCmp.InsertionK
namespace Go.Proofs.YtmmeekmiildliaaGreatDoor
open Go.RowKit Go.Shelf
open Go.Sort hiding Below
set_option linter.unusedSimpArgs false
set_option linter.unusedVariables false
def insRen : Go.Shelf.Ren := ⟨fun | 20 => 113 | n => n, fun | 22 => 46 | 24 => 59 | 25 => 79 | n => n, fun n => n⟩
theorem insLays : SlLaysF0.n20 Tryz.prog insRen := {
  mixed := by kernel_rfl
  f20 := ⟨Tryz.f113.name, by kernel_rfl, Tryz.func113.trans (congrArg some (by kernel_rfl))⟩
  t0 := Tryz.underlying0
  a0 := Tryz.isAgg0
  z0 := Tryz.sizeOf0
  v0 := Tryz.zeroValue0
  t3 := Tryz.underlying3
  a3 := Tryz.isAgg3
  z3 := Tryz.sizeOf3
  v3 := Tryz.zeroValue3
  t4 := Tryz.underlying4
  a4 := Tryz.isAgg4
  z4 := Tryz.sizeOf4
  v4 := Tryz.zeroValue4
  t22 := Tryz.underlying46
  a22 := Tryz.isAgg46
  z22 := Tryz.sizeOf46
  v22 := Tryz.zeroValue46
  t25 := Tryz.underlying79
  a25 := Tryz.isAgg79
  z25 := Tryz.sizeOf79
  v25 := Tryz.zeroValue79 }

theorem grow_three (w : World) (a b c : Obj) : World.alloc ((((w.alloc a).alloc b)).drewN 1) c = grow (w.drewN 1) #[a, b, c] := by
  have e : (((w.heap.push a).push b).push c) = w.heap ++ #[a, b, c] := by apply Array.ext'; simp
  show ({ w with heap := ((w.heap.push a).push b).push c, drawn := w.drawn + 1 } : World) = { w with heap := w.heap ++ #[a, b, c], drawn := w.drawn + 1 }
  rw [e]
set_option maxRecDepth 100000 in
set_option maxHeartbeats 16000000 in
theorem compare_grown (t u k j : Int) (A B G H : Option Addr) (n c m d gn gc hn' hc' : Nat) (L M : List ByteArray) (w : World) (hA : Row w A (texts L)) (hB : Row w B (texts M)) (hn : n = L.length) (hm : m = M.length) (hn2 : n ≤ 9223372036854775807) (hm2 : m ≤ 9223372036854775807) :
    Calls Tryz.prog 41 #[.agg #[.int .i64 t, .slice A n c, .int .i64 k, .slice G gn gc], .agg #[.int .i64 u, .slice B m d, .int .i64 j, .slice H hn' hc']] w fun e w' => e = .returned (.int .i64 (cmpK t u L M)) ∧ ∃ q os', w' = grow (w.drewN q) os' := by
  obtain ⟨W1, hW1⟩ : ∃ W1, W1 = (w.alloc (.cells #[.int .i64 t, .slice A n c, .int .i64 k, .slice G gn gc] 59)).alloc (.cells #[.int .i64 u, .slice B m d, .int .i64 j, .slice H hn' hc'] 59) := ⟨_, rfl⟩
  have hb1 : Below w.heap.size w W1 := by rw [hW1]; exact bpush (bpush (Below.refl _ _) _) _
  have HB1 := Lib.hid hb1
  have HA := Lib.hid (hA.keep (Nat.le_refl _) hb1)
  have HB := Lib.hid (hB.keep (Nat.le_refl _) hb1)
  have HN := Lib.hid hn
  have HM := Lib.hid hm
  have s0 : W1.cell? ⟨w.heap.size, 0, none⟩ = some (.int .i64 t) := by rw [hW1]; exact cell_on (bpush (Below.refl _ _) _) (cell_made rfl rfl)
  have s1 : W1.cell? ⟨w.heap.size, 1, none⟩ = some (.slice A n c) := by rw [hW1]; exact cell_on (bpush (Below.refl _ _) _) (cell_made rfl rfl)
  have c0 : W1.cell? ⟨w.heap.size + 1, 0, none⟩ = some (.int .i64 u) := by rw [hW1]; exact cell_made (by simp) rfl
  have c1 : W1.cell? ⟨w.heap.size + 1, 1, none⟩ = some (.slice B m d) := by rw [hW1]; exact cell_made (by simp) rfl
  have HW1 := Lib.hid hW1
  obtain ⟨a, ha⟩ : ∃ a, a = cmpI t u := ⟨_, rfl⟩
  obtain ⟨b, hb⟩ : ∃ b, b = cmpL L M := ⟨_, rfl⟩
  have HCA := Lib.hid ha
  have HCB := Lib.hid hb
  obtain ⟨r, hr⟩ : ∃ r, r = if a = 0 then b else a := ⟨_, rfl⟩
  have HRR := Lib.hid hr
  have HR := Lib.hid (show cmpK t u L M = r by rw [hr]; unfold cmpK; rw [← ha, ← hb])
  clear hA hB hn hm hW1 hb1 ha hb hr
  go_enter Tryz.func41, Tryz.ntmps41
  go_wp2_with fail
  rw [← HW1.out]
  refine wp_region_held_drew (S := fun w' => Below W1.heap.size W1 w') (by kernel_rfl) (below_drewN (Below.refl _ _) 1) ?_
  intro hHeld
  refine take_want (i := 0) (v := ?v0k1) rfl (by kernel_rfl) (by kernel_rfl) (by kernel_rfl) (fun _ _ _ h => h) (by rfl) ?y0k1 (by assumption) ?r0k1
  case y0k1 => (intro w hSw; go_simp; all_goals with_reducible rfl)
  (try simp only [Act.put, List.setIfInBounds_toArray, List.set_cons_zero, List.set_cons_succ])
  refine take_want (i := 1) (v := ?v1k1) rfl (by kernel_rfl) (by kernel_rfl) (by kernel_rfl) (fun _ _ _ h => h) (by rfl) ?y1k1 (by assumption) ?r1k1
  case y1k1 => (intro w hSw; have q0 := cell_on hSw s0; have q1 := cell_on hSw s1; have q2 := cell_on hSw c0; have q3 := cell_on hSw c1; go_simp; all_goals with_reducible rfl)
  (try simp only [Act.put, List.setIfInBounds_toArray, List.set_cons_zero, List.set_cons_succ])
  refine take_want (i := 2) (v := ?v2k1) rfl (by kernel_rfl) (by kernel_rfl) (by kernel_rfl) (fun _ _ _ h => h) (by rfl) ?y2k1 (by assumption) ?r2k1
  case y2k1 => (intro w hSw; go_simp; all_goals with_reducible rfl)
  (try simp only [Act.put, List.setIfInBounds_toArray, List.set_cons_zero, List.set_cons_succ])
  refine take_want (i := 3) (v := ?v3k1) rfl (by kernel_rfl) (by kernel_rfl) (by kernel_rfl) (fun _ _ _ h => h) (by rfl) ?y3k1 (by assumption) ?r3k1
  case y3k1 => (intro w hSw; have q0 := cell_on hSw s0; have q1 := cell_on hSw s1; have q2 := cell_on hSw c0; have q3 := cell_on hSw c1; go_simp; all_goals with_reducible rfl)
  (try simp only [Act.put, List.setIfInBounds_toArray, List.set_cons_zero, List.set_cons_succ])
  refine take_want (i := 5) (v := ?v5k1) rfl (by kernel_rfl) (by kernel_rfl) (by kernel_rfl) (fun _ _ _ h => h) (by rfl) ?y5k1 (by assumption) ?r5k1
  case y5k1 => (intro w hSw; go_simp; all_goals with_reducible rfl)
  (try simp only [Act.put, List.setIfInBounds_toArray, List.set_cons_zero, List.set_cons_succ])
  refine take_want (i := 6) (v := ?v6k1) rfl (by kernel_rfl) (by kernel_rfl) (by kernel_rfl) (fun _ _ _ h => h) (by rfl) ?y6k1 (by assumption) ?r6k1
  case y6k1 => (intro w hSw; have q0 := cell_on hSw s0; have q1 := cell_on hSw s1; have q2 := cell_on hSw c0; have q3 := cell_on hSw c1; go_simp; all_goals with_reducible rfl)
  (try simp only [Act.put, List.setIfInBounds_toArray, List.set_cons_zero, List.set_cons_succ])
  refine take_want (i := 7) (v := ?v7k1) rfl (by kernel_rfl) (by kernel_rfl) (by kernel_rfl) (fun _ _ _ h => h) (by rfl) ?y7k1 (by assumption) ?r7k1
  case y7k1 => (intro w hSw; go_simp; all_goals with_reducible rfl)
  (try simp only [Act.put, List.setIfInBounds_toArray, List.set_cons_zero, List.set_cons_succ])
  refine take_want (i := 8) (v := ?v8k1) rfl (by kernel_rfl) (by kernel_rfl) (by kernel_rfl) (fun _ _ _ h => h) (by rfl) ?y8k1 (by assumption) ?r8k1
  case y8k1 => (intro w hSw; have q0 := cell_on hSw s0; have q1 := cell_on hSw s1; have q2 := cell_on hSw c0; have q3 := cell_on hSw c1; go_simp; all_goals with_reducible rfl)
  (try simp only [Act.put, List.setIfInBounds_toArray, List.set_cons_zero, List.set_cons_succ])
  refine wpAnyH_ready (rs := [4]) (by kernel_rfl) (by simp) ?_
  refine AllReadyH.cons rfl (fun K hK => ?_) AllReadyH.nil
  go_simp
  (go_at_call 70; refine (cmpI_any t u _).mono ?_; rw [← HCA.out]; rintro e w6 ⟨rfl, rfl⟩)
  refine hK.out _ _ (hHeld) (fun hHeld => ?_)
  clear hK K
  (try simp only [Act.put, List.setIfInBounds_toArray, List.set_cons_zero, List.set_cons_succ])
  refine wpAnyH_ready (rs := [9]) (by kernel_rfl) (by simp) ?_
  refine AllReadyH.cons rfl (fun K hK => ?_) AllReadyH.nil
  go_simp
  (go_at_call 71; refine (cmpL_any A B n c m d L M _ (HA.out.keep (Nat.le_refl _) hHeld) (HB.out.keep (Nat.le_refl _) hHeld) HN.out HM.out hn2 hm2).mono ?_; rw [← HCB.out]; rintro e w7 ⟨rfl, rfl⟩)
  refine hK.out _ _ (hHeld) (fun hHeld => ?_)
  clear hK K
  (try simp only [Act.put, List.setIfInBounds_toArray, List.set_cons_zero, List.set_cons_succ])
  refine wpAnyH_ready (rs := [10]) (by kernel_rfl) (by simp) ?_
  refine AllReadyH.cons rfl (fun K hK => ?_) AllReadyH.nil
  go_simp
  have hb7 := hHeld.alloc hHeld.size (.cells #[.int .i64 a, .int .i64 b] 3)
  refine hK.out _ _ hb7 (fun hHeld => ?_)
  clear hK K
  (try simp only [Act.put, List.setIfInBounds_toArray, List.set_cons_zero, List.set_cons_succ])
  have HROW := Lib.hid (show Row (World.alloc (W1.drewN 1) (.cells #[.int .i64 a, .int .i64 b] 3)) (some ⟨W1.heap.size, 0, none⟩) [.int .i64 a, .int .i64 b] from Row.made rfl rfl)
  refine wpAnyH_ready (rs := [11]) (by kernel_rfl) (by simp) ?_
  refine AllReadyH.cons rfl (fun K hK => ?_) AllReadyH.nil
  go_simp
  (go_at_call 69; refine (or_any (some ⟨W1.heap.size, 0, none⟩) 2 a b _ HROW.out).mono ?_; rw [← HRR.out]; rintro e w8 ⟨rfl, rfl⟩)
  refine hK.out _ _ (hHeld) (fun hHeld => ?_)
  clear hK K
  (try simp only [Act.put, List.setIfInBounds_toArray, List.set_cons_zero, List.set_cons_succ])
  refine take_want (i := 12) (v := ?v12k1) rfl (by kernel_rfl) (by kernel_rfl) (by kernel_rfl) (fun _ _ _ h => h) (by rfl) ?y12k1 (by assumption) ?r12k1
  case y12k1 => (intro w hSw; go_simp; all_goals with_reducible rfl)
  (try simp only [Act.put, List.setIfInBounds_toArray, List.set_cons_zero, List.set_cons_succ])
  refine wpAnyH_done (by kernel_rfl) ?_ _
  go_wp2_with fail
  go_ret
  exact ⟨by rw [HR.out]; rfl, 1, _, by rw [HW1.out]; exact grow_three _ _ _ _⟩

theorem sw_below {α : Type} [Inhabited α] (enc : α → List Value) (k : Nat) (w : World) (blk off m : Nat) (dk : Array α) (os : Array Obj) (hblk : blk < w.heap.size) : Below blk w (sortWorldK enc k w blk off m dk os) := by
  refine ⟨rfl, rfl, rfl, ?_, fun i hi => ?_⟩
  · exact size_sortWorldK_c enc k w blk off m dk os
  · show ((w.heap.modify blk _) ++ os)[i]? = _
    rw [Array.getElem?_append_left (by simp; omega), Array.getElem?_modify, if_neg (by omega)]
/-- Rows as they were at w0. -/
abbrev GZ (w0 : World) := {z : RZ // Good w0 z}
instance (w0 : World) : Inhabited (GZ w0) := ⟨⟨(RC.zero, RV.zero), Good.zero w0⟩⟩
def encG (w0 : World) (z : GZ w0) : List Value := encR z.1
theorem encG_len (w0 : World) (z : GZ w0) : (encG w0 z).length = 4 := rfl
theorem encG_one (w0 : World) (z : GZ w0) : ∀ v ∈ encG w0 z, v.oneCell' = true := by
  intro u hu
  simp only [encG, encR, List.mem_cons, List.not_mem_nil, or_false] at hu
  rcases hu with rfl | rfl | rfl | rfl <;> rfl
def cfG (w0 : World) (x y : GZ w0) : Int := cmpV x.1.2 y.1.2
theorem cmp_lays (w0 w : World) (blk off size : Nat) (h : Below w0.heap.size w0 w) (hb : w0.heap.size ≤ blk) (hblk : blk < w.heap.size) : CmpLays Tryz.prog 41 #[] (encG w0) 4 (cfG w0) blk off size w := by
  intro m os dk hsz x y
  have hk := h.trans ((sw_below (encG w0) 4 w blk off m dk os hblk).mono hb)
  exact compare_grown x.1.2.t y.1.2.t x.1.2.count y.1.2.count x.1.1.D y.1.1.D x.1.1.G y.1.1.G x.1.1.n x.1.1.c y.1.1.n y.1.1.c x.1.1.gn x.1.1.gc y.1.1.gn y.1.1.gc x.1.2.dims y.1.2.dims _
    (x.2.rd.keep (Nat.le_refl _) hk) (y.2.rd.keep (Nat.le_refl _) hk) x.2.nd y.2.nd (by have := x.2.sd; omega) (by have := y.2.sd; omega)
set_option maxRecDepth 100000 in
set_option maxHeartbeats 4000000 in
theorem stable_few (w0 w : World) (blk cap : Nat) (d : Array (GZ w0)) (h : Below w0.heap.size w0 w) (hb : w0.heap.size ≤ blk) (hH : HoldsK (encG w0) 4 w blk 0 d) (hblk : blk < w.heap.size) (h19 : d.size ≤ 19) :
    Calls Tryz.prog 87 #[.slice (some ⟨blk, 0, none⟩) d.size cap, .int .i64 d.size, .func (.func 41) #[] #[]] w fun e w' => e = .returned (.tuple #[]) ∧ ∃ n os, w' = sortWorldK (encG w0) 4 w blk 0 n (insertionSort (ltOf (cfG w0)) d 0 d.size) os := by
  have hi := AnyQ.insertionSortCmpFunc insLays 4 (fun w => Tryz.isAgg59 w) (fun w => Tryz.sizeOf59 w) (encG w0) (encG_len w0) (encG_one w0) (cfG w0) 41 #[] blk 0 cap 0 d.size d w (enters_of Tryz.func41 (by kernel_rfl) rfl) (cmp_lays w0 w blk 0 d.size h hb hblk) hH hblk (Nat.zero_le _) (Nat.le_refl _) (by omega)
  have HI := Lib.hid hi
  have HD := Lib.hid h19
  have z1 : ¬ ((20 : Int) ≤ (d.size : Int)) := by omega
  have z2 : ¬ ((20 : Int) < (d.size : Int)) := by omega
  clear hi h hH h19
  generalize insertionSort (ltOf (cfG w0)) d 0 d.size = dd at HI ⊢
  go_enter Tryz.func87, Tryz.ntmps87
  go_wp2_with fail
  refine wp_loop_rounds 1 ?_
  rw [rounds_succ]
  go_wp2_with fail
  go_at_call 113
  refine HI.out.mono ?_
  clear HI
  rintro e w' ⟨rfl, n, os, rfl⟩
  go_wp2_with fail
  refine wp_loop_rounds 1 ?_
  rw [rounds_succ]
  go_wp2_with fail
  go_end0
  exact ⟨rfl, n, os, rfl⟩
theorem sort_few (w0 w : World) (blk cap : Nat) (d : Array (GZ w0)) (h : Below w0.heap.size w0 w) (hb : w0.heap.size ≤ blk) (hH : HoldsK (encG w0) 4 w blk 0 d) (hblk : blk < w.heap.size) (h19 : d.size ≤ 19) :
    Calls Tryz.prog 52 #[.slice (some ⟨blk, 0, none⟩) d.size cap, .func (.func 41) #[] #[]] w fun e w' => e = .returned (.tuple #[]) ∧ ∃ n os, w' = sortWorldK (encG w0) 4 w blk 0 n (insertionSort (ltOf (cfG w0)) d 0 d.size) os := by
  have HI := Lib.hid (stable_few w0 w blk cap d h hb hH hblk h19)
  clear h hH h19
  generalize insertionSort (ltOf (cfG w0)) d 0 d.size = dd at HI ⊢
  go_enter Tryz.func52, Tryz.ntmps52
  go_wp2_with fail
  go_at_call 87
  refine HI.out.mono ?_
  clear HI
  rintro e w' ⟨rfl, n, os, rfl⟩
  go_wp2_with fail
  go_end0
  exact ⟨rfl, n, os, rfl⟩
theorem flat_get (w0 : World) (d : Array (GZ w0)) (j : Nat) (hj : j < d.size * 4) : (flatK (encG w0) 4 d)[j]? = (cellsR (d.toList.map Subtype.val))[j]? := by
  have hq : j / 4 < d.size := by omega
  have hsz : j < (flatK (encG w0) 4 d).size := by rw [size_flatK]; exact hj
  have hq2 : j / 4 < (d.toList.map Subtype.val).length := by simpa using hq
  have hr2 : j % 4 < (encR ((d.toList.map Subtype.val)[j / 4]'hq2)).length := by simp [encR]; omega
  have h1 : (cellsR (d.toList.map Subtype.val))[j / 4 * 4 + j % 4]? = some ((encR ((d.toList.map Subtype.val)[j / 4]'hq2))[j % 4]'hr2) := cellsR_get _ (j / 4) (by simpa using hq) (j % 4) _ (List.getElem?_eq_getElem (by simp [encR]; omega))
  rw [show j / 4 * 4 + j % 4 = j by omega] at h1
  rw [h1, Array.getElem?_eq_getElem hsz]
  have h2 := get_flatK (encG w0) 4 d j hj
  rw [getElem!_pos _ j hsz, getElem!_pos d (j / 4) hq] at h2
  rw [h2]
  congr 1
  unfold encG
  have hm : j % 4 < (encR d[j / 4].1).length := by simp [encR]; omega
  rw [getElem!_pos _ (j % 4) hm]
  simp
theorem holds_rows (w0 w : World) (B blk n cap : Nat) (d : Array (GZ w0)) (hn : n = d.size) (ho : w.ownsRow B 59 4 (.slice (some ⟨blk, 0, none⟩) n cap) n (cellsR (d.toList.map Subtype.val))) : HoldsK (encG w0) 4 w blk 0 d ∧ blk < w.heap.size := by
  rcases ho.2 with ⟨h, _⟩ | ⟨g, cap', cur, he, hb, hc, h1, h2, h3, h4⟩
  · cases h
  · cases he
    refine ⟨fun j hj => ?_, (Array.getElem?_eq_some_iff.1 hc).1⟩
    rw [size_flatK] at hj
    rw [Nat.zero_add]
    have hf := flat_get w0 d j hj
    have hsz : j < (flatK (encG w0) 4 d).size := by rw [size_flatK]; exact hj
    refine ⟨?_, by simp [World.frozen?, hc]⟩
    have hcc : w.cell? ⟨blk, j, none⟩ = cur[j]? := by simp [World.cell?, hc]
    rw [hcc, getElem!_pos _ j hsz]
    have : cur[j]? = (cellsR (d.toList.map Subtype.val))[j]? := by
      rw [← h4, List.getElem?_take, Array.getElem?_toList, if_pos (by rw [hn]; exact hj)]
    rw [this, ← hf, Array.getElem?_eq_getElem hsz]; rfl
theorem row_holds (w0 w : World) (blk : Nat) (d : Array (GZ w0)) (h : HoldsK (encG w0) 4 w blk 0 d) : Row w (some ⟨blk, 0, none⟩) (cellsR (d.toList.map Subtype.val)) := by
  refine .inr ⟨blk, 0, rfl, fun j u hu => ?_⟩
  have hj : j < d.size * 4 := by
    rcases Nat.lt_or_ge j (d.size * 4) with h1 | h1
    · exact h1
    · rw [List.getElem?_eq_none (by rw [cellsR_length]; simpa using h1)] at hu; cases hu
  have hsz : j < (flatK (encG w0) 4 d).size := by rw [size_flatK]; exact hj
  have hc := (h j hsz).1
  rw [hc, getElem!_pos _ j hsz]
  rw [← flat_get w0 d j hj, Array.getElem?_eq_getElem hsz] at hu
  exact hu
theorem exists_gz (w0 : World) : ∀ Z : List RZ, (∀ z ∈ Z, Good w0 z) → ∃ l : List (GZ w0), l.map Subtype.val = Z
  | [], _ => ⟨[], rfl⟩
  | z :: Z, h => by
    obtain ⟨l, hl⟩ := exists_gz w0 Z fun y hy => h y (List.mem_cons_of_mem _ hy)
    exact ⟨⟨z, h z (List.mem_cons_self ..)⟩ :: l, by rw [List.map_cons, hl]⟩
/-- Few rows are put in order; those of one key stay as they stood. -/
theorem sort_rows (w0 w : World) (B blk n cap : Nat) (Z : List RZ) (h : Below w0.heap.size w0 w) (hb : w0.heap.size ≤ blk) (hg : ∀ z ∈ Z, Good w0 z) (hn : n = Z.length) (h19 : n ≤ 19)
    (ho : w.ownsRow B 59 4 (.slice (some ⟨blk, 0, none⟩) n cap) n (cellsR Z)) :
    Calls Tryz.prog 52 #[.slice (some ⟨blk, 0, none⟩) n cap, .func (.func 41) #[] #[]] w fun e w' => e = .returned (.tuple #[]) ∧ ∃ Z' : List RZ, SortsTo (Z.map Prod.snd) (Z'.map Prod.snd) ∧ (∀ z ∈ Z', Good w0 z) ∧ Z'.length = n ∧ Row w' (some ⟨blk, 0, none⟩) (cellsR Z') ∧ Below blk w w' := by
  obtain ⟨l, hl⟩ := exists_gz w0 Z hg
  obtain ⟨d, hd⟩ : ∃ d : Array (GZ w0), d = l.toArray := ⟨_, rfl⟩
  have hdl : d.toList = l := by rw [hd]
  have hds : d.size = n := by rw [hd, hn, ← hl]; simp
  have ho2 : w.ownsRow B 59 4 (.slice (some ⟨blk, 0, none⟩) n cap) n (cellsR (d.toList.map Subtype.val)) := by rw [hdl, hl]; exact ho
  obtain ⟨hH, hblk⟩ := holds_rows w0 w B blk n cap d hds.symm ho2
  have hc := sort_few w0 w blk cap d h hb hH hblk (by omega)
  rw [hds] at hc
  refine hc.mono ?_
  rintro e w' ⟨rfl, m, os, rfl⟩
  have hs := ins_sorts (fun z : GZ w0 => z.1.2) d
  have hsz : (insertionSort (ltOf (cfG w0)) d 0 n).size = d.size := by
    have := (insOuter_filter (lt := ltOf (cfG w0)) (fun _ => false) (fun x y hx _ => by cases hx) 0 d.size _ 1 d rfl (Nat.le_refl _)).2
    rw [← hds]; exact this
  rw [hds] at hs
  refine ⟨rfl, (insertionSort (ltOf (cfG w0)) d 0 n).toList.map Subtype.val, ?_, ?_, ?_, ?_, sw_below _ _ _ _ _ _ _ _ hblk⟩
  · have e1 : d.toList.map (fun z : GZ w0 => z.1.2) = Z.map Prod.snd := by rw [hdl, ← hl, List.map_map]; rfl
    rw [e1] at hs
    rw [List.map_map]
    exact hs
  · intro z hz
    obtain ⟨y, _, rfl⟩ := List.mem_map.1 hz
    exact y.2
  · simp [hsz, hds]
  · exact row_holds w0 _ blk _ (holdsK_sortWorldK_c (encG w0) 4 w blk 0 d _ _ _ hH hblk hsz)
end Go.Proofs.YtmmeekmiildliaaGreatDoor
