/- The shelf's insertion sort, laid at rows; SortStableFunc of few rows. -/
import Derived.Test.YtbccjkjibffbkaaRH
import Derived.Shelf.SlSortCmp.InsertionK

namespace Go.Proofs.Ytbccjkjibffbkaa
open Go.RowKit Go.Shelf
open Go.Sort hiding Below
set_option linter.unusedSimpArgs false
set_option linter.unusedVariables false
theorem grow_three (w : World) (a b c : Obj) : World.alloc ((((w.alloc a).alloc b)).drewN 1) c = grow (w.drewN 1) #[a, b, c] := by
  have e : (((w.heap.push a).push b).push c) = w.heap ++ #[a, b, c] := by apply Array.ext'; simp
  show ({ w with heap := ((w.heap.push a).push b).push c, drawn := w.drawn + 1 } : World) = { w with heap := w.heap ++ #[a, b, c], drawn := w.drawn + 1 }
  rw [e]
set_option maxRecDepth 100000 in
set_option maxHeartbeats 16000000 in
theorem compare_grown (t u k j : Int) (A B G H : Option Addr) (n c m d gn gc hn' hc' : Nat) (L M : List ByteArray) (w : World) (hA : Row w A (texts L)) (hB : Row w B (texts M)) (hn : n = L.length) (hm : m = M.length) (hn2 : n ≤ 9223372036854775807) (hm2 : m ≤ 9223372036854775807) :
    Calls Try.prog 18 #[.agg #[.int .i64 t, .slice A n c, .int .i64 k, .slice G gn gc], .agg #[.int .i64 u, .slice B m d, .int .i64 j, .slice H hn' hc']] w fun e w' => e = .returned (.int .i64 (cmpK t u L M)) ∧ ∃ q os', w' = grow (w.drewN q) os' := by
  obtain ⟨W1, hW1⟩ : ∃ W1, W1 = (w.alloc (.cells #[.int .i64 t, .slice A n c, .int .i64 k, .slice G gn gc] 39)).alloc (.cells #[.int .i64 u, .slice B m d, .int .i64 j, .slice H hn' hc'] 39) := ⟨_, rfl⟩
  have hb1 : Below w.heap.size w W1 := by rw [hW1]; exact bpush (bpush (Below.refl _ _) _) _
  have HB1 := Lib.hid hb1
  have HA := Lib.hid (hA.keep (Nat.le_refl _) hb1)
  have HB := Lib.hid (hB.keep (Nat.le_refl _) hb1)
  have HN := Lib.hid hn
  have HM := Lib.hid hm
  have s0 : W1.cell? ⟨w.heap.size, 0, none⟩ = some (.int .i64 t) := by rw [hW1]; exact cell_on (bpush (Below.refl _ _) _) (cell_made rfl rfl)
  have s1 : W1.cell? ⟨w.heap.size, 1, none⟩ = some (.slice A n c) := by rw [hW1]; exact cell_on (bpush (Below.refl _ _) _) (cell_made rfl rfl)
  have c0 : W1.cell? ⟨w.heap.size + 1, 0, none⟩ = some (.int .i64 u) := by rw [hW1]; exact cell_made (by simp) rfl
  have c1 : W1.cell? ⟨w.heap.size + 1, 1, none⟩ = some (.slice B m d) := by rw [hW1]; exact cell_made (by simp) rfl
  have HW1 := Lib.hid hW1
  obtain ⟨a, ha⟩ : ∃ a, a = cmpI t u := ⟨_, rfl⟩
  obtain ⟨b, hb⟩ : ∃ b, b = cmpL L M := ⟨_, rfl⟩
  have HCA := Lib.hid ha
  have HCB := Lib.hid hb
  obtain ⟨r, hr⟩ : ∃ r, r = if a = 0 then b else a := ⟨_, rfl⟩
  have HRR := Lib.hid hr
  have HR := Lib.hid (show cmpK t u L M = r by rw [hr]; unfold cmpK; rw [← ha, ← hb])
  clear hA hB hn hm hW1 hb1 ha hb hr
  go_enter Try.func18, Try.ntmps18
  go_wp2_with fail
  rw [← HW1.out]
  refine wp_region_held_drew (S := fun w' => Below W1.heap.size W1 w') (by kernel_rfl) (below_drewN (Below.refl _ _) 1) ?_
  intro hHeld
  refine take_want (i := 0) (v := ?v0k1) rfl (by kernel_rfl) (by kernel_rfl) (by kernel_rfl) (fun _ _ _ h => h) (by rfl) ?y0k1 (by assumption) ?r0k1
  case y0k1 => (intro w hSw; go_simp; all_goals with_reducible rfl)
  (try simp only [Act.put, List.setIfInBounds_toArray, List.set_cons_zero, List.set_cons_succ])
  refine take_want (i := 1) (v := ?v1k1) rfl (by kernel_rfl) (by kernel_rfl) (by kernel_rfl) (fun _ _ _ h => h) (by rfl) ?y1k1 (by assumption) ?r1k1
  case y1k1 => (intro w hSw; have q0 := cell_on hSw s0; have q1 := cell_on hSw s1; have q2 := cell_on hSw c0; have q3 := cell_on hSw c1; go_simp; all_goals with_reducible rfl)
  (try simp only [Act.put, List.setIfInBounds_toArray, List.set_cons_zero, List.set_cons_succ])
  refine take_want (i := 2) (v := ?v2k1) rfl (by kernel_rfl) (by kernel_rfl) (by kernel_rfl) (fun _ _ _ h => h) (by rfl) ?y2k1 (by assumption) ?r2k1
  case y2k1 => (intro w hSw; go_simp; all_goals with_reducible rfl)
  (try simp only [Act.put, List.setIfInBounds_toArray, List.set_cons_zero, List.set_cons_succ])
  refine take_want (i := 3) (v := ?v3k1) rfl (by kernel_rfl) (by kernel_rfl) (by kernel_rfl) (fun _ _ _ h => h) (by rfl) ?y3k1 (by assumption) ?r3k1
  case y3k1 => (intro w hSw; have q0 := cell_on hSw s0; have q1 := cell_on hSw s1; have q2 := cell_on hSw c0; have q3 := cell_on hSw c1; go_simp; all_goals with_reducible rfl)
  (try simp only [Act.put, List.setIfInBounds_toArray, List.set_cons_zero, List.set_cons_succ])
  refine take_want (i := 5) (v := ?v5k1) rfl (by kernel_rfl) (by kernel_rfl) (by kernel_rfl) (fun _ _ _ h => h) (by rfl) ?y5k1 (by assumption) ?r5k1
  case y5k1 => (intro w hSw; go_simp; all_goals with_reducible rfl)
  (try simp only [Act.put, List.setIfInBounds_toArray, List.set_cons_zero, List.set_cons_succ])
  refine take_want (i := 6) (v := ?v6k1) rfl (by kernel_rfl) (by kernel_rfl) (by kernel_rfl) (fun _ _ _ h => h) (by rfl) ?y6k1 (by assumption) ?r6k1
  case y6k1 => (intro w hSw; have q0 := cell_on hSw s0; have q1 := cell_on hSw s1; have q2 := cell_on hSw c0; have q3 := cell_on hSw c1; go_simp; all_goals with_reducible rfl)
  (try simp only [Act.put, List.setIfInBounds_toArray, List.set_cons_zero, List.set_cons_succ])
  refine take_want (i := 7) (v := ?v7k1) rfl (by kernel_rfl) (by kernel_rfl) (by kernel_rfl) (fun _ _ _ h => h) (by rfl) ?y7k1 (by assumption) ?r7k1
  case y7k1 => (intro w hSw; go_simp; all_goals with_reducible rfl)
  (try simp only [Act.put, List.setIfInBounds_toArray, List.set_cons_zero, List.set_cons_succ])
  refine take_want (i := 8) (v := ?v8k1) rfl (by kernel_rfl) (by kernel_rfl) (by kernel_rfl) (fun _ _ _ h => h) (by rfl) ?y8k1 (by assumption) ?r8k1
  case y8k1 => (intro w hSw; have q0 := cell_on hSw s0; have q1 := cell_on hSw s1; have q2 := cell_on hSw c0; have q3 := cell_on hSw c1; go_simp; all_goals with_reducible rfl)
  (try simp only [Act.put, List.setIfInBounds_toArray, List.set_cons_zero, List.set_cons_succ])
  refine wpAnyH_ready (rs := [4]) (by kernel_rfl) (by simp) ?_
  refine AllReadyH.cons rfl (fun K hK => ?_) AllReadyH.nil
  go_simp
  (go_at_call 37; refine (cmpI_any t u _).mono ?_; rw [← HCA.out]; rintro e w6 ⟨rfl, rfl⟩)
  refine hK.out _ _ (hHeld) (fun hHeld => ?_)
  clear hK K
  (try simp only [Act.put, List.setIfInBounds_toArray, List.set_cons_zero, List.set_cons_succ])
  refine wpAnyH_ready (rs := [9]) (by kernel_rfl) (by simp) ?_
  refine AllReadyH.cons rfl (fun K hK => ?_) AllReadyH.nil
  go_simp
  (go_at_call 38; refine (cmpL_any A B n c m d L M _ (HA.out.keep (Nat.le_refl _) hHeld) (HB.out.keep (Nat.le_refl _) hHeld) HN.out HM.out hn2 hm2).mono ?_; rw [← HCB.out]; rintro e w7 ⟨rfl, rfl⟩)
  refine hK.out _ _ (hHeld) (fun hHeld => ?_)
  clear hK K
  (try simp only [Act.put, List.setIfInBounds_toArray, List.set_cons_zero, List.set_cons_succ])
  refine wpAnyH_ready (rs := [10]) (by kernel_rfl) (by simp) ?_
  refine AllReadyH.cons rfl (fun K hK => ?_) AllReadyH.nil
  go_simp
  have hb7 := hHeld.alloc hHeld.size (.cells #[.int .i64 a, .int .i64 b] 3)
  refine hK.out _ _ hb7 (fun hHeld => ?_)
  clear hK K
  (try simp only [Act.put, List.setIfInBounds_toArray, List.set_cons_zero, List.set_cons_succ])
  have HROW := Lib.hid (show Row (World.alloc (W1.drewN 1) (.cells #[.int .i64 a, .int .i64 b] 3)) (some ⟨W1.heap.size, 0, none⟩) [.int .i64 a, .int .i64 b] from Row.made rfl rfl)
  refine wpAnyH_ready (rs := [11]) (by kernel_rfl) (by simp) ?_
  refine AllReadyH.cons rfl (fun K hK => ?_) AllReadyH.nil
  go_simp
  (go_at_call 36; refine (or_any (some ⟨W1.heap.size, 0, none⟩) 2 a b _ HROW.out).mono ?_; rw [← HRR.out]; rintro e w8 ⟨rfl, rfl⟩)
  refine hK.out _ _ (hHeld) (fun hHeld => ?_)
  clear hK K
  (try simp only [Act.put, List.setIfInBounds_toArray, List.set_cons_zero, List.set_cons_succ])
  refine take_want (i := 12) (v := ?v12k1) rfl (by kernel_rfl) (by kernel_rfl) (by kernel_rfl) (fun _ _ _ h => h) (by rfl) ?y12k1 (by assumption) ?r12k1
  case y12k1 => (intro w hSw; go_simp; all_goals with_reducible rfl)
  (try simp only [Act.put, List.setIfInBounds_toArray, List.set_cons_zero, List.set_cons_succ])
  refine wpAnyH_done (by kernel_rfl) ?_ _
  go_wp2_with fail
  go_ret
  exact ⟨by rw [HR.out]; rfl, 1, _, by rw [HW1.out]; exact grow_three _ _ _ _⟩

theorem sw_below {α : Type} [Inhabited α] (enc : α → List Value) (k : Nat) (w : World) (blk off m : Nat) (dk : Array α) (os : Array Obj) (hblk : blk < w.heap.size) : Below blk w (sortWorldK enc k w blk off m dk os) := by
  refine ⟨rfl, rfl, rfl, ?_, fun i hi => ?_⟩
  · exact size_sortWorldK_c enc k w blk off m dk os
  · show ((w.heap.modify blk _) ++ os)[i]? = _
    rw [Array.getElem?_append_left (by simp; omega), Array.getElem?_modify, if_neg (by omega)]
/-- Rows as they were at w0. -/
abbrev GZ (w0 : World) := {z : RZ // Good w0 z}
instance (w0 : World) : Inhabited (GZ w0) := ⟨⟨(RC.zero, RV.zero), Good.zero w0⟩⟩
def encG (w0 : World) (z : GZ w0) : List Value := encR z.1
theorem encG_len (w0 : World) (z : GZ w0) : (encG w0 z).length = 4 := rfl
theorem encG_one (w0 : World) (z : GZ w0) : ∀ v ∈ encG w0 z, v.oneCell' = true := by
  intro u hu
  simp only [encG, encR, List.mem_cons, List.not_mem_nil, or_false] at hu
  rcases hu with rfl | rfl | rfl | rfl <;> rfl
def cfG (w0 : World) (x y : GZ w0) : Int := cmpV x.1.2 y.1.2
theorem cmp_lays (w0 w : World) (blk off size : Nat) (h : Below w0.heap.size w0 w) (hb : w0.heap.size ≤ blk) (hblk : blk < w.heap.size) : CmpLays Try.prog 18 #[] (encG w0) 4 (cfG w0) blk off size w := by
  intro m os dk hsz x y
  have hk := h.trans ((sw_below (encG w0) 4 w blk off m dk os hblk).mono hb)
  exact compare_grown x.1.2.t y.1.2.t x.1.2.count y.1.2.count x.1.1.D y.1.1.D x.1.1.G y.1.1.G x.1.1.n x.1.1.c y.1.1.n y.1.1.c x.1.1.gn x.1.1.gc y.1.1.gn y.1.1.gc x.1.2.dims y.1.2.dims _
    (x.2.rd.keep (Nat.le_refl _) hk) (y.2.rd.keep (Nat.le_refl _) hk) x.2.nd y.2.nd (by have := x.2.sd; omega) (by have := y.2.sd; omega)
theorem flat_get (w0 : World) (d : Array (GZ w0)) (j : Nat) (hj : j < d.size * 4) : (flatK (encG w0) 4 d)[j]? = (cellsR (d.toList.map Subtype.val))[j]? := by
  have hq : j / 4 < d.size := by omega
  have hsz : j < (flatK (encG w0) 4 d).size := by rw [size_flatK]; exact hj
  have hq2 : j / 4 < (d.toList.map Subtype.val).length := by simpa using hq
  have hr2 : j % 4 < (encR ((d.toList.map Subtype.val)[j / 4]'hq2)).length := by simp [encR]; omega
  have h1 : (cellsR (d.toList.map Subtype.val))[j / 4 * 4 + j % 4]? = some ((encR ((d.toList.map Subtype.val)[j / 4]'hq2))[j % 4]'hr2) := cellsR_get _ (j / 4) (by simpa using hq) (j % 4) _ (List.getElem?_eq_getElem (by simp [encR]; omega))
  rw [show j / 4 * 4 + j % 4 = j by omega] at h1
  rw [h1, Array.getElem?_eq_getElem hsz]
  have h2 := get_flatK (encG w0) 4 d j hj
  rw [getElem!_pos _ j hsz, getElem!_pos d (j / 4) hq] at h2
  rw [h2]
  congr 1
  unfold encG
  have hm : j % 4 < (encR d[j / 4].1).length := by simp [encR]; omega
  rw [getElem!_pos _ (j % 4) hm]
  simp
theorem holds_rows (w0 w : World) (B blk n cap : Nat) (d : Array (GZ w0)) (hn : n = d.size) (ho : w.ownsRow B 39 4 (.slice (some ⟨blk, 0, none⟩) n cap) n (cellsR (d.toList.map Subtype.val))) : HoldsK (encG w0) 4 w blk 0 d ∧ blk < w.heap.size := by
  rcases ho.2 with ⟨h, _⟩ | ⟨g, cap', cur, he, hb, hc, h1, h2, h3, h4⟩
  · cases h
  · cases he
    refine ⟨fun j hj => ?_, (Array.getElem?_eq_some_iff.1 hc).1⟩
    rw [size_flatK] at hj
    rw [Nat.zero_add]
    have hf := flat_get w0 d j hj
    have hsz : j < (flatK (encG w0) 4 d).size := by rw [size_flatK]; exact hj
    refine ⟨?_, by simp [World.frozen?, hc]⟩
    have hcc : w.cell? ⟨blk, j, none⟩ = cur[j]? := by simp [World.cell?, hc]
    rw [hcc, getElem!_pos _ j hsz]
    have : cur[j]? = (cellsR (d.toList.map Subtype.val))[j]? := by
      rw [← h4, List.getElem?_take, Array.getElem?_toList, if_pos (by rw [hn]; exact hj)]
    rw [this, ← hf, Array.getElem?_eq_getElem hsz]; rfl
theorem row_holds (w0 w : World) (blk : Nat) (d : Array (GZ w0)) (h : HoldsK (encG w0) 4 w blk 0 d) : Row w (some ⟨blk, 0, none⟩) (cellsR (d.toList.map Subtype.val)) := by
  refine .inr ⟨blk, 0, rfl, fun j u hu => ?_⟩
  have hj : j < d.size * 4 := by
    rcases Nat.lt_or_ge j (d.size * 4) with h1 | h1
    · exact h1
    · rw [List.getElem?_eq_none (by rw [cellsR_length]; simpa using h1)] at hu; cases hu
  have hsz : j < (flatK (encG w0) 4 d).size := by rw [size_flatK]; exact hj
  have hc := (h j hsz).1
  rw [hc, getElem!_pos _ j hsz]
  rw [← flat_get w0 d j hj, Array.getElem?_eq_getElem hsz] at hu
  exact hu
theorem exists_gz (w0 : World) : ∀ Z : List RZ, (∀ z ∈ Z, Good w0 z) → ∃ l : List (GZ w0), l.map Subtype.val = Z
  | [], _ => ⟨[], rfl⟩
  | z :: Z, h => by
    obtain ⟨l, hl⟩ := exists_gz w0 Z fun y hy => h y (List.mem_cons_of_mem _ hy)
    exact ⟨⟨z, h z (List.mem_cons_self ..)⟩ :: l, by rw [List.map_cons, hl]⟩
end Go.Proofs.Ytbccjkjibffbkaa
