/- Fold of no rows. -/
import Derived.Test.YtkfcpmmiimpkbaaSK
namespace Go.Proofs.Ytkfcpmmiimpkbaa
open Go.RowKit Go.Shelf
set_option linter.unusedSimpArgs false
set_option linter.unusedVariables false
attribute [local go_sem] Oper.semAt_some
set_option maxRecDepth 100000 in
set_option maxHeartbeats 8000000 in
theorem keys_zero (n l Bs cap : Nat) (D : Option Addr) (W : World) (h : W.cell? ⟨Bs, 0, none⟩ = some (.slice D 0 cap)) :
    CallsIn Fence.wide n Try.prog 69 #[.func (.yield l) #[] #[], .pointer (some ⟨Bs, 0, none⟩)] W fun e W' => e = .returned (.tuple #[]) ∧ W' = W := by
  refine callsIn_of_wp Try.func69 rfl trivial ?_ rfl
  simp only [Try.ntmps69, List.size_toArray, List.length_cons, List.length_nil, Nat.reduceAdd, Nat.reduceSub, Array.replicate_succ, Array.replicate_zero, List.push_toArray, List.append_toArray, List.nil_append, List.cons_append]
  gi_wp2
  refine wpIn_wide.2 ?_
  refine wp_loop_rounds 1 ?_
  rw [rounds_succ]
  go_wp2_with fail
  go_end0
  exact ⟨rfl, rfl⟩
set_option maxRecDepth 1000000 in
set_option maxHeartbeats 8000000 in
theorem ins_zero (w : World) (A : Option Addr) (cap : Nat) : Calls Try.prog 78 #[.slice A 0 cap, .int .i64 0, .int .i64 0, .func (.func 50) #[] #[]] w fun e w' => e = .returned (.tuple #[]) ∧ w' = w := by
  go_enter Try.func78, Try.ntmps78
  go_wp2_with fail
  refine wp_loop_rounds 1 ?_
  rw [rounds_succ]
  go_wp2_with fail
  go_end0
  exact ⟨rfl, rfl⟩
set_option maxRecDepth 1000000 in
set_option maxHeartbeats 8000000 in
theorem stable_zero (w : World) (A : Option Addr) (cap : Nat) : Calls Try.prog 65 #[.slice A 0 cap, .int .i64 ((0 : Nat) : Int), .func (.func 50) #[] #[]] w fun e w' => e = .returned (.tuple #[]) ∧ w' = w := by
  go_enter Try.func65, Try.ntmps65
  go_wp2_with fail
  refine wp_loop_rounds 1 ?_
  rw [rounds_succ]
  go_wp2_with fail
  go_at_call 78
  refine (ins_zero _ _ _).mono ?_
  rintro e w' ⟨rfl, rfl⟩
  go_wp2_with fail
  refine wp_loop_rounds 1 ?_
  rw [rounds_succ]
  go_wp2_with fail
  go_end0
  exact ⟨rfl, rfl⟩
theorem SortsTo.nil : SortsTo [] [] := ⟨List.Pairwise.nil, fun k => rfl⟩
set_option maxRecDepth 100000 in
set_option maxHeartbeats 16000000 in
theorem fold_zero (A : Option Addr) (c : Nat) (w : World) (ha : A = none → c = 0) :
    Calls Try.prog 27 #[.slice A 0 c] w (FoldPost w []) := by
  refine (callsIn_wide (n := 9)).1 ?_
  refine callsIn_of_wp_marks Try.func27 rfl trivial ?_ rfl
  simp only [Try.ntmps27, List.size_toArray, List.length_cons, List.length_nil, Nat.reduceAdd, Nat.reduceSub, Array.replicate_succ, Array.replicate_zero, List.push_toArray, List.append_toArray, List.nil_append, List.cons_append]
  gi_wp2
  obtain ⟨W1, hW1⟩ : ∃ W1, W1 = (w.alloc (.cells #[.slice none 0 0] 25)).alloc (.cells #[.int .i64 0] 31) := ⟨_, rfl⟩
  have hb1 : Below w.heap.size w W1 := by rw [hW1]; exact bpush (bpush (Below.refl _ _) _) _
  have hs1 : W1.heap.size = w.heap.size + 2 := by rw [hW1]; simp
  have HR2 := Lib.hid (show Blk W1 w.heap.size 25 #[.slice none 0 0] by rw [hW1]; exact (Blk.new w 25 _).alloc _)
  have HR3 := Lib.hid (show Blk W1 (w.heap.size + 1) 31 #[.int .i64 0] by rw [hW1]; have := Blk.new (w.alloc (.cells #[.slice none 0 0] 25)) 31 #[.int .i64 0]; simpa using this)
  rw [← hW1]
  have HB1 := Lib.hid hb1
  clear hW1 hb1
  refine ⟨trivial, (callsIn_wide.2 (cloneR_any A 0 c (cellsR []) W1 (.inl rfl) rfl (fun u hu => by cases hu) (Nat.zero_le _) ha (by omega))).mono ?_⟩
  rintro e w2 ⟨D, k, rfl, ho2, hb2⟩
  have HB2 := Lib.hid (bthen HB1.out hb2)
  have HR2 := Lib.hid (HR2.out.below hb2 (by omega))
  have HR3 := Lib.hid (HR3.out.below hb2 (by omega))
  have hs2 : W1.heap.size ≤ w2.heap.size := hb2.size
  clear ho2 hb2
  gi_wp2
  refine ⟨trivial, (callsIn_wide.2 (sort_call w2 D 0 k _ (stable_zero w2 D k))).mono ?_⟩
  rintro e w3 ⟨rfl, rfl⟩
  have HB3 := HB2
  have hs3 : w.heap.size + 2 ≤ w3.heap.size := by omega
  gi_wp2
  refine ⟨trivial, (callsIn_wide.2 (keys_maker D 0 k _)).mono ?_⟩
  rintro e w4 ⟨rfl, rfl⟩
  gi_wp2
  obtain ⟨W3, hW3⟩ : ∃ W3, (w3.alloc (.cells #[.slice none 0 0] 25)).alloc (.cells #[.slice D 0 k] 25) = W3 := ⟨_, rfl⟩
  obtain ⟨ob, hob⟩ : ∃ ob, ob = w3.heap.size := ⟨_, rfl⟩
  have hsz3 : W3.heap.size = ob + 2 := by rw [← hW3, hob]; simp
  have hb43 : Below w3.heap.size w3 W3 := by rw [← hW3]; exact bpush (bpush (Below.refl _ _) _) _
  have HFD := Lib.hid (show Fd w W3 ob (.slice none 0 0) [] W3 from ⟨by rw [← hW3, hob]; exact (Blk.new w3 25 _).alloc _, Near.refl _ _ _, World.ownsRow_nil _ _ _ _, fun y hy => by cases hy⟩)
  have HBS := Lib.hid (show Blk W3 (ob + 1) 25 #[.slice D 0 k] by rw [← hW3, hob]; have := Blk.new (w3.alloc (.cells #[.slice none 0 0] 25)) 25 #[.slice D 0 k]; simpa using this)
  have HR2 := Lib.hid (HR2.out.below hb43 (by omega))
  have HR3 := Lib.hid (HR3.out.below hb43 (by omega))
  have HBW := Lib.hid (bthen HB3.out hb43)
  have hob1 : w.heap.size + 2 ≤ ob := by omega
  rw [hW3, ← hob]
  clear hW3 hob hb43 HB3 HB2 HB1 hs3 hs2 hs1
  refine range_rec (by omega) (gf := 69) (lb := #[.pointer (some ⟨ob + 1, 0, none⟩)]) rfl (enters_of Try.func69 (by kernel_rfl) rfl) ?_
  intro fn rec hrec
  rw [hsz3] at hrec ⊢
  have hBS2 : Blk ((W3.alloc (.deferred (some []))).alloc (.loop (rec .ready none))) (ob + 1) 25 #[.slice D 0 k] := (HBS.out.alloc _).alloc _
  have hc1 := hBS2.cell 0
  simp at hc1
  refine CallsIn.mono (keys_zero 8 (ob + 2 + 1) (ob + 1) k D _ (by simpa using hBS2.cell 0)) ?_
  have hL0 : ((W3.alloc (.deferred (some []))).alloc (.loop (rec .ready none))).heap[ob + 2 + 1]? = some (.loop (rec .ready none)) := by
    have := World.alloc_heap_new (W3.alloc (.deferred (some []))) (.loop (rec .ready none))
    rw [World.size_alloc, hsz3] at this
    exact this
  have hD0 : ((W3.alloc (.deferred (some []))).alloc (.loop (rec .ready none))).heap[ob + 2]? = some (.deferred (some [])) := by
    have := World.alloc_heap_new W3 (.deferred (some []))
    rw [hsz3] at this
    exact (Below.heap_alloc _ _ _ (by simp; omega)).trans this
  have hF0 : Fd w W3 ob (.slice none 0 0) [] ((W3.alloc (.deferred (some []))).alloc (.loop (rec .ready none))) := (HFD.out.none (by omega) (World.grownBy_alloc _ _ none)).none (by simp; omega) (World.grownBy_alloc _ _ none)
  generalize (W3.alloc (.deferred (some []))).alloc (.loop (rec .ready none)) = WW at hL0 hD0 hF0
  clear hBS2 hc1
  rintro e W' ⟨rfl, rfl⟩
  refine ⟨⟨_, rfl⟩, ?_⟩
  obtain ⟨Y, hY0⟩ : ∃ Y : List RZ, Y = [] := ⟨_, rfl⟩
  obtain ⟨v, hv0⟩ : ∃ v : Value, v = .slice none 0 0 := ⟨_, rfl⟩
  have hYL : Y.length = 0 := by rw [hY0]; rfl
  have hfd : Fd w W3 ob v Y W' := by rw [hY0, hv0]; exact hF0
  have hL := hL0
  have hD := hD0
  refine .inl ⟨hL, ?_⟩
  obtain ⟨V, hV⟩ : ∃ V, W'.putObj (ob + 2 + 1) (.loop (rec .exhausted none)) = V := ⟨_, rfl⟩
  rw [hV]
  have HFD := Lib.hid (show Fd w W3 ob v Y V by rw [← hV]; exact hfd.loop hL (by omega) _)
  have HDF := Lib.hid (show V.heap[ob + 2]? = some (.deferred (some [])) by rw [← hV]; exact (World.putObj_heap_other (by omega)).trans hD)
  have HFL := Lib.hid (show foldL [] = (Y.map Prod.snd, 0) from by rw [hY0]; rfl)
  have HYL := Lib.hid hYL
  clear hYL hY0 hv0
  have HBV := Lib.hid (HBW.out.trans (HFD.out.near.below (by omega) (by omega)) : Below w.heap.size w V)
  have HQ2 := Lib.hid (show Blk V w.heap.size 25 #[.slice none 0 0] from (HFD.out.near.block _ (by omega) (by omega)).trans HR2.out)
  have HQ3 := Lib.hid (show Blk V (w.heap.size + 1) 31 #[.int .i64 0] from (HFD.out.near.block _ (by omega) (by omega)).trans HR3.out)
  have b0 := HFD.out.b.cell 0
  simp at b0
  obtain ⟨hYn, vA, vc, rfl, hvr, hvc, hvm, hvn⟩ := own_sliceR HFD.out.own
  have hgy : ∀ y ∈ Y, Good V y := fun y hy => (HFD.out.ys y hy).elim (fun h => h.keep HBV.out) (fun h => h.good)
  have HCC := Lib.hid (copy_any vA Y.length vc Y V ⟨hvr, hgy⟩ rfl (by have := HYL.out; omega))
  have hdV : ob + 2 < V.heap.size := lt_of_heap HDF.out
  clear hfd hL hD hL0 hD0 hF0 hV hrec hvr hvc hvm hvn hgy hYn
  gi_wp2
  refine ⟨trivial, (callsIn_wide.2 HCC.out).mono ?_⟩
  clear HCC
  rintro e9 w9 ⟨v9, Y9, rfl, ho9, hm9, hy9, hb9⟩
  obtain ⟨A9, c9, rfl⟩ := own_is ho9
  have HO9 := Lib.hid ho9
  have HM9 := Lib.hid hm9
  have HY9 := Lib.hid hy9
  have HQ2 := Lib.hid (HQ2.out.below hb9 (by omega))
  have HQ3 := Lib.hid (HQ3.out.below hb9 (by omega))
  have HD9 := Lib.hid (show w9.heap[ob + 2]? = some (.deferred (some [])) from (hb9.block _ hdV).trans HDF.out)
  have HB9 := Lib.hid (HBV.out.trans (hb9.mono HBV.out.size))
  have hwV : w.heap.size + 2 ≤ V.heap.size := by omega
  have b2 := HQ2.out.cell 0
  have f2 := HQ2.out.frozen 0
  have b3 := HQ3.out.cell 0
  have f3 := HQ3.out.frozen 0
  simp at b2 b3
  clear ho9 hm9 hy9 hb9 b0
  gi_wp2
  obtain ⟨we, hwe⟩ : ∃ we, we = (w9.setCell ⟨w.heap.size, 0, none⟩ (.slice A9 Y.length c9)).setCell ⟨w.heap.size + 1, 0, none⟩ (.int .i64 0) := ⟨_, rfl⟩
  have q2 : Blk we w.heap.size 25 #[.slice A9 Y.length c9] := by rw [hwe]; have h := (HQ2.out.set_ 0 (.slice A9 Y.length c9)).far (p := ⟨w.heap.size + 1, 0, none⟩) (by simp) (.int .i64 0); simpa using h
  have q3 : Blk we (w.heap.size + 1) 31 #[.int .i64 0] := by rw [hwe]; have h := (HQ3.out.far (p := ⟨w.heap.size, 0, none⟩) (by simp) (.slice A9 Y.length c9)).set_ 0 (.int .i64 0); simpa using h
  have qD : we.heap[ob + 2]? = some (.deferred (some [])) := by rw [hwe]; exact (Below.heap_setCell _ _ _ _ (by simp; omega)).trans ((Below.heap_setCell _ _ _ _ (by simp; omega)).trans HD9.out)
  have qB : Below w.heap.size w we := by rw [hwe]; exact bset (bset HB9.out (Nat.le_refl _) _) (by omega) _
  have q3' := HQ3.out.far (p := ⟨w.heap.size, 0, none⟩) (by simp) (.slice A9 Y.length c9)
  have qO : we.ownsRow V.heap.size 45 4 (.slice A9 Y.length c9) Y.length (cellsR Y9) := by
    rw [hwe]
    have h1 := own_set' (o := 0) (u := .slice A9 Y.length c9) HO9.out (HO9.out.not_blk HQ2.out (by decide))
    exact own_set' h1 (h1.not_blk q3' (by decide))
  have qY : ∀ y ∈ Y9, Owned V.heap.size we y := fun y hy => by
    rw [hwe]
    exact ((HY9.out y hy).setB HQ2.out (by decide) (by decide)).setB q3' (by decide) (by decide)
  have hl9 : Y9.length = Y.length := by have := congrArg List.length HM9.out; simpa using this
  rw [← hwe]
  clear hwe q3' b2 b3 f2 f3
  refine ⟨by simp, .inl ⟨_, _, rfl, run_takeDeferred qD, ?_⟩⟩
  obtain ⟨wf, hwf⟩ : ∃ wf, wf = we.putObj (ob + 2) (.deferred none) := ⟨_, rfl⟩
  have hgf : we.grownBy wf (some (ob + 2)) := by rw [hwf]; exact grownBy_putObj' _ _ _
  have c2 := (q2.grown hgf (fun e => by have := Option.some.inj e; omega)).cell 0
  have c3 := (q3.grown hgf (fun e => by have := Option.some.inj e; omega)).cell 0
  simp at c2 c3
  rw [← hwf]
  refine ⟨.tuple #[.slice A9 Y.length c9, .int .i64 0], by simp [results, Try.results27, go_sem, c2, c3], ?_⟩
  refine ⟨_, Y9, 0, [], rfl, SortsTo.nil, by rw [HFL.out, HM9.out], ?_, ?_, qB.grown hgf qB.size (fun k e => by cases e; omega)⟩
  · rw [hl9]; exact own_less (qO.kept hgf (.inr (own_not_def qO qD))) HBV.out.size
  · exact fun y hy => ((qY y hy).grown hgf (fun g e => by cases e; exact ⟨own_not_def (qY y hy).d qD, own_not_def (qY y hy).g qD⟩)).less HBV.out.size
end Go.Proofs.Ytkfcpmmiimpkbaa
