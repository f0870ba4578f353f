/- AppendSeq (98) and Collect (66) of a map's values. -/
import Derived.Test.YtmmeekmiildliaaGreatDoorIB
namespace Go.Proofs.YtmmeekmiildliaaGreatDoor
open Go.RowKit Go.Maps Go.Sort Go.Shelf
set_option linter.unusedSimpArgs false
set_option linter.unusedVariables false
attribute [local go_sem] Oper.semAt_some
theorem own_not_walk {W : World} {B size k j : Nat} {e : TypeId} {v : Value} {xs : List Value} (h : W.ownsRow B e size v k xs) {o : Obj} (ho : W.heap[j]? = some o) (hw : o.isWalk = true) : v.ownBlock ≠ some j := by
  rcases h.2 with ⟨rfl, _⟩ | ⟨g, cap, cur, rfl, _, hgb, _⟩
  · simp [Value.ownBlock]
  · intro e'
    have : g = j := by simpa [Value.ownBlock] using e'
    subst this; rw [hgb] at ho; cases ho; cases hw
theorem own_walk_not {W : World} {B size k : Nat} {e : TypeId} {v : Value} {xs : List Value} (h : W.ownsRow B e size v k xs) : ∀ (j : Nat) (o : Obj), v.ownBlock = some j → W.heap[j]? = some o → o.isWalk = false := by
  intro j o hj ho
  cases hw : o.isWalk with
  | false => rfl
  | true => exact absurd hj (own_not_walk h ho hw)
theorem walk_keeps {W W' : World} {row : Option Nat} (hg : W.grownBy W' row) (hr : ∀ r, row = some r → ∃ o : Obj, W.heap[r]? = some o ∧ o.isWalk = true) {j : Nat} {o : Obj} (ho : W.heap[j]? = some o) (hw : o.isWalk = false) : W'.heap[j]? = some o := by
  refine (hg.block j (lt_of_heap ho) (fun e => ?_)).trans ho
  obtain ⟨o', h1, h2⟩ := hr j e.symm
  rw [ho] at h1; cases h1; rw [hw] at h2; cases h2
/-- What AppendSeq keeps. -/
structure As (w : World) (bx : Nat) (v : Value) (Y : List RZ) (W : World) : Prop where
  b : Blk W bx 46 #[v]
  lt : w.heap.size ≤ bx
  bel : Below w.heap.size w W
  own : W.ownsRow w.heap.size 59 4 v Y.length (cellsR Y)
section
variable {w W W' : World} {bx : Nat} {v : Value} {Y : List RZ}
theorem As.none (h : As w bx v Y W) (hg : W.grownBy W' none) : As w bx v Y W' :=
  ⟨h.b.grown hg (by simp), h.lt, h.bel.grown hg h.bel.size (fun k e => by cases e), h.own.kept hg (by cases v.ownBlock <;> simp)⟩
theorem As.walk {row : Option Nat} (h : As w bx v Y W) (hg : W.grownBy W' row) (hr : ∀ r, row = some r → w.heap.size ≤ r ∧ ∃ o : Obj, W.heap[r]? = some o ∧ o.isWalk = true) : As w bx v Y W' := by
  refine ⟨walk_keeps hg (fun r e => (hr r e).2) h.b rfl, h.lt, h.bel.grown hg h.bel.size (fun k e => (hr k e).1), h.own.kept hg ?_⟩
  cases row with
  | none => cases v.ownBlock <;> simp
  | some r => obtain ⟨_, o, ho, hw⟩ := hr r rfl; exact .inr (own_not_walk h.own ho hw)
theorem As.loop {l : Nat} {r : Loop} (h : As w bx v Y W) (hl : W.heap[l]? = some (.loop r)) (hlw : w.heap.size ≤ l) (o : Obj) : As w bx v Y (W.putObj l o) := by
  have hg := grownBy_putObj' W l o
  exact ⟨h.b.grown hg (fun e => loop_not_blk hl h.b (Option.some.inj e)), h.lt, h.bel.grown hg h.bel.size (fun k e => by cases e; exact hlw), h.own.kept hg (.inr (own_not_loop h.own hl))⟩
theorem As.append {v' : Value} {z : RZ} (h : As w bx v Y W) (hg : W.grownBy W' v.ownBlock) (ho : W'.ownsRow w.heap.size 59 4 v' (Y.length + 1) (cellsR (Y ++ [z]))) : As w bx v' (Y ++ [z]) (W'.setCell ⟨bx, 0, Option.none⟩ v') := by
  have hb' := h.b.grown hg (h.own.not_blk h.b (by decide))
  have hgs : W'.grownBy (W'.setCell ⟨bx, 0, Option.none⟩ v') (some bx) := ⟨rfl, rfl, rfl, by simp [World.setCell], fun i hi hne => Below.heap_setCell W' _ _ i (fun e => hne (by rw [e]))⟩
  have hlt := h.lt
  refine ⟨by have := hb'.set_ 0 v'; simpa using this, h.lt, ?_, ?_⟩
  · exact (h.bel.grown hg h.bel.size (fun k e => (h.own.lt k e).1)).grown hgs (by have := h.bel.size; have := hg.size; omega) (fun k e => by cases e; exact hlt)
  · have := ho.kept hgs (.inr (ho.not_blk hb' (by decide)))
    rw [List.length_append]; exact this
end
def SeqPost (w : World) (Z : List RZ) (e : Ending) (w' : World) : Prop := ∃ v Y, e = .returned v ∧ Y.Perm Z ∧ w'.ownsRow w.heap.size 59 4 v Y.length (cellsR Y) ∧ Below w.heap.size w w'
set_option maxRecDepth 100000 in
set_option maxHeartbeats 16000000 in
theorem seq_any (Bm b nn : Nat) (D0 : DataW Value) (Z : List RZ) (w : World) (hD : MapIs D0 Z) (hl : Z.length ≤ 1000000) (hm : w.cell? ⟨Bm, 0, none⟩ = some (.map (some b))) (hown : w.ownsMap Tryz.prog 9 RM b nn D0) :
    Calls Tryz.prog 98 #[.slice none 0 0, .func (.func 68) #[] #[.pointer (some ⟨Bm, 0, none⟩)]] w (SeqPost w Z) := by
  refine (callsIn_wide (n := 9)).1 ?_
  have HD := Lib.hid hD
  have HZL := Lib.hid hl
  have HM := Lib.hid hm
  have HOWN := Lib.hid hown
  obtain ⟨i0, hi0, hz0, hz1, hz2⟩ := info_parts info27
  clear hD hl hm hown
  refine callsIn_of_wp_marks Tryz.func98 rfl trivial ?_ rfl
  simp only [Tryz.ntmps98, List.size_toArray, List.length_cons, List.length_nil, Nat.reduceAdd, Nat.reduceSub, Array.replicate_succ, Array.replicate_zero, List.push_toArray, List.append_toArray, List.nil_append, List.cons_append]
  gi_wp2
  obtain ⟨W3, hW3⟩ : ∃ W3, W3 = w.alloc (.cells #[.slice none 0 0] 46) := ⟨_, rfl⟩
  obtain ⟨bx, hbx⟩ : ∃ bx, bx = w.heap.size := ⟨_, rfl⟩
  have hsz3 : W3.heap.size = bx + 1 := by rw [hW3, hbx]; simp
  have HAS := Lib.hid (show As w bx (.slice none 0 0) [] W3 from ⟨by rw [hW3, hbx]; exact Blk.new w 46 _, by omega, by rw [hW3]; exact bpush (Below.refl _ _) _, World.ownsRow_nil _ _ _ _⟩)
  rw [← hW3, ← hbx]
  have hbxl : w.heap.size ≤ bx := by omega
  clear hW3 hbx
  refine range_rec (by omega) (gf := 68) (lb := #[.pointer (some ⟨Bm, 0, none⟩)]) rfl (enters_of Tryz.func68 (by kernel_rfl) rfl) ?_
  intro fn rec hrec
  rw [hsz3] at hrec ⊢
  obtain ⟨W5, hW5⟩ : ∃ W5, W5 = (W3.alloc (.deferred (some []))).alloc (.loop (rec .ready none)) := ⟨_, rfl⟩
  have hb5 : Below W3.heap.size W3 W5 := by rw [hW5]; exact bpush (bpush (Below.refl _ _) _) _
  have h5l : W5.heap[bx + 1 + 1]? = some (.loop (rec .ready none)) := by
    rw [hW5]
    have := World.alloc_heap_new (W3.alloc (.deferred (some []))) (.loop (rec .ready none))
    rw [World.size_alloc, hsz3] at this
    exact this
  have h5d : W5.heap[bx + 1]? = some (.deferred (some [])) := by
    rw [hW5]
    have := World.alloc_heap_new W3 (.deferred (some []))
    rw [hsz3] at this
    exact (Below.heap_alloc _ _ _ (by simp; omega)).trans this
  have HAS5 := Lib.hid (HAS.out.none (grown_none hb5))
  have h5m : W5.cell? ⟨Bm, 0, none⟩ = some (.map (some b)) := cell_on HAS5.out.bel HM.out
  have h5o : W5.ownsMap Tryz.prog 9 RM b nn D0 := HOWN.out.kept (grown_none HAS5.out.bel) (by simp)
  have h5s := HAS5.out.bel.size
  rw [← hW5]
  clear hW5 hb5
  refine CallsIn.mono (vals_in 8 (bx + 1 + 1) Bm b nn D0 Z HD.out
    (fun pre W => W.heap[bx + 1 + 1]? = some (.loop (rec .ready none)) ∧ W.heap[bx + 1]? = some (.deferred (some [])) ∧ ∃ v, As w bx v pre W)
    (by omega) ?round W5 ?keep h5m h5o ⟨h5l, h5d, _, HAS5.out⟩) ?post
  case keep =>
    rintro pre W1 W2 row ⟨h1, h2, v, h3⟩ hg hr
    have hr' : ∀ r, row = some r → ∃ o : Obj, W1.heap[r]? = some o ∧ o.isWalk = true := fun r e => (hr r e).2
    exact ⟨walk_keeps hg hr' h1 rfl, walk_keeps hg hr' h2 rfl, v, h3.walk hg (fun r e => ⟨Nat.le_trans h5s (hr r e).1, (hr r e).2⟩)⟩
  case round =>
    rintro pre ⟨⟨D, dn, dc, G, gn, gc⟩, ⟨t, Lx, u, X⟩⟩ W ⟨hL, hD, v, hls⟩ hpre hzz
    have hpl : pre.length + 1 ≤ 1000000 := by have := HZL.out; omega
    simp only [encR_eq]
    obtain ⟨Wa, hWa⟩ : ∃ Wa, Wa = W.alloc (.cells #[.int .i64 t, .slice D dn dc, .int .i64 u, .slice G gn gc] 59) := ⟨_, rfl⟩
    obtain ⟨V, hV⟩ : ∃ V, Wa.putObj (bx + 1 + 1) (.loop (rec .busy none)) = V := ⟨_, rfl⟩
    have hga : W.grownBy Wa none := by rw [hWa]; exact World.grownBy_alloc W _ none
    have hla : Wa.heap[bx + 1 + 1]? = some (.loop (rec .ready none)) := by rw [hWa]; exact (Below.heap_alloc W _ _ (lt_of_heap hL)).trans hL
    have hda : Wa.heap[bx + 1]? = some (.deferred (some [])) := by rw [hWa]; exact (Below.heap_alloc W _ _ (lt_of_heap hD)).trans hD
    have hk1 : KeepsWalks W Wa := by rw [hWa]; exact KeepsWalks.alloc _ _
    have hk2 : KeepsWalks W V := by rw [← hV]; exact hk1.trans (KeepsWalks.putObj _ hla rfl)
    have HLA := Lib.hid hla
    have hra : Blk Wa W.heap.size 59 #[.int .i64 t, .slice D dn dc, .int .i64 u, .slice G gn gc] := by rw [hWa]; exact Blk.new W 59 _
    have hstv := (hls.none hga).loop hla (by omega) (.loop (rec .busy none))
    rw [hV] at hstv
    have HST := Lib.hid hstv
    have HK2 := Lib.hid hk2
    have HLP := Lib.hid (show V.heap[bx + 1 + 1]? = some (.loop (rec .busy none)) by rw [← hV]; exact put_loop hla _)
    have HDF := Lib.hid (show V.heap[bx + 1]? = some (.deferred (some [])) by rw [← hV]; exact (World.putObj_heap_other (by omega)).trans hda)
    have HRV := Lib.hid (show Blk V W.heap.size 59 #[.int .i64 t, .slice D dn dc, .int .i64 u, .slice G gn gc] by rw [← hV]; exact (World.putObj_heap_other (Ne.symm (loop_not_blk hla hra))).trans hra)
    have HWa := Lib.hid hWa
    have HV := Lib.hid hV
    refine round_rec hrec hL rfl ?_
    clear hls hga hla hda hra hstv hWa hV hL hD hrec hk1 hk2
    gi_wp2
    rw [← HWa.out]
    refine ⟨HLA.out, ?_⟩
    rw [HV.out]
    obtain ⟨rb, hrb⟩ : ∃ rb, rb = W.heap.size := ⟨_, rfl⟩
    rw [← hrb] at HRV ⊢
    clear HWa HV HLA hrb Wa
    have b0 := HST.out.b.cell 0
    simp at b0
    have r0 : V.cell? ⟨rb, 0, none⟩ = some (.int .i64 t) := HRV.out.cell 0
    have r1 : V.cell? ⟨rb, 1, none⟩ = some (.slice D dn dc) := HRV.out.cell 1
    have r2 : V.cell? ⟨rb, 2, none⟩ = some (.int .i64 u) := HRV.out.cell 2
    have r3 : V.cell? ⟨rb, 3, none⟩ = some (.slice G gn gc) := HRV.out.cell 3
    have hwv : w.heap.size ≤ V.heap.size := HST.out.bel.size
    gi_wp2_with (gi_at_builtin; refine wpListIn_append_own _ rfl _ _ 46 rfl w.heap.size 59 i0 (.agg #[.int .i64 0, .slice none 0 0, .int .i64 0, .slice none 0 0]) 4 64 Tryz.underlying46 hi0 hz0 hz1 hz2 rfl (by decide) v pre.length (cellsR pre) rfl (HST.out.own.alloc _) ⟨V.heap.size, 0, none⟩ 1 1 [.int .i64 t, .slice D dn dc, .int .i64 u, .slice G gn gc] rfl rfl (Row.made rfl rfl).at' (by intro u hu; simp at hu; rcases hu with rfl | rfl | rfl | rfl <;> rfl) (by unfold maxLen; omega) (by omega) (by simp; omega) ?_)
    intro v5 w5 ho5 hg5 _
    have ho6 : w5.ownsRow w.heap.size 59 4 v5 (pre.length + 1) (cellsR (pre ++ [(⟨D, dn, dc, G, gn, gc⟩, ⟨t, Lx, u, X⟩)])) := by rw [cellsR_app]; exact ho5
    obtain ⟨A5, c5, rfl⟩ := own_is ho6
    have hga := World.grownBy_alloc V (.cells #[.int .i64 t, .slice D dn dc, .int .i64 u, .slice G gn gc] 59) none
    have hfa := HST.out.none hga
    have hk5 : KeepsWalks W w5 := (HK2.out.trans (KeepsWalks.alloc V (.cells #[.int .i64 t, .slice D dn dc, .int .i64 u, .slice G gn gc] 59))).trans (KeepsWalks.of_grownBy hg5 (own_walk_not hfa.own))
    have hla := (hga.block _ (lt_of_heap HLP.out) (by simp)).trans HLP.out
    have hda := (hga.block _ (lt_of_heap HDF.out) (by simp)).trans HDF.out
    have hbl : Blk w5 bx 46 #[_] := hfa.b.grown hg5 (hfa.own.not_blk hfa.b (by decide))
    have hlp5 : w5.heap[bx + 1 + 1]? = some (.loop (rec .busy none)) := (hg5.block _ (lt_of_heap hla) (Ne.symm (own_not_loop hfa.own hla))).trans hla
    have hdf5 : w5.heap[bx + 1]? = some (.deferred (some [])) := (hg5.block _ (lt_of_heap hda) (Ne.symm (own_not_def hfa.own hda))).trans hda
    have HLP5 := Lib.hid (show (w5.setCell ⟨bx, 0, none⟩ (.slice A5 (pre.length + 1) c5)).heap[bx + 1 + 1]? = some (.loop (rec .busy none)) from (Below.heap_setCell w5 ⟨bx, 0, none⟩ _ _ (by simp; omega)).trans hlp5)
    have HDF5 := Lib.hid (show (w5.setCell ⟨bx, 0, none⟩ (.slice A5 (pre.length + 1) c5)).heap[bx + 1]? = some (.deferred (some [])) from (Below.heap_setCell w5 ⟨bx, 0, none⟩ _ _ (by simp)).trans hdf5)
    have HLS5 := Lib.hid (hfa.append hg5 ho6)
    have HK5 := Lib.hid (hk5.trans (KeepsWalks.setCell w5 ⟨bx, 0, none⟩ (.slice A5 (pre.length + 1) c5)))
    have b0 := hbl.cell 0
    have bf := hbl.frozen 0
    simp at b0
    clear ho5 hg5 ho6 hga hfa hla hda hbl hlp5 hdf5 r0 r1 r2 r3 hk5
    gi_wp2
    exact ⟨HLP5.out, rfl, ⟨put_loop HLP5.out _, (World.putObj_heap_other (by omega)).trans HDF5.out, _, HLS5.out.loop HLP5.out (by omega) (.loop (rec .ready none))⟩, HK5.out.trans (KeepsWalks.putObj _ HLP5.out rfl)⟩
  case post =>
    rintro e W' ⟨⟨v0, rfl⟩, Y, hY, hL, hD, v, hls⟩
    refine ⟨⟨_, rfl⟩, .inl ?_⟩
    refine ⟨hL, ?_⟩
    obtain ⟨V, hV⟩ : ∃ V, W'.putObj (bx + 1 + 1) (.loop (rec .exhausted none)) = V := ⟨_, rfl⟩
    rw [hV]
    have HST := Lib.hid (show As w bx v Y V by rw [← hV]; exact hls.loop hL (by omega) _)
    have HDF := Lib.hid (show V.heap[bx + 1]? = some (.deferred (some [])) by rw [← hV]; exact (World.putObj_heap_other (by omega)).trans hD)
    have hb0 := HST.out.b.cell 0
    simp at hb0
    obtain ⟨vA, vc, rfl⟩ := own_is HST.out.own
    clear hls hD hV hrec hL
    gi_wp2
    refine ⟨by simp, .inl ⟨_, _, rfl, run_takeDeferred HDF.out, ?_⟩⟩
    refine ⟨_, results_tmp rfl _ _ _, _, Y, rfl, hY, ?_, ?_⟩
    · exact ownsRow_putObj HST.out.own (.deferred none) HDF.out rfl
    · exact HST.out.bel.grown (grownBy_putObj' V (bx + 1) (.deferred none)) HST.out.bel.size (fun k e => by cases e; omega)
theorem collect_any (Bm b nn : Nat) (D0 : DataW Value) (Z : List RZ) (w : World) (hD : MapIs D0 Z) (hl : Z.length ≤ 1000000) (hm : w.cell? ⟨Bm, 0, none⟩ = some (.map (some b))) (hown : w.ownsMap Tryz.prog 9 RM b nn D0) :
    Calls Tryz.prog 66 #[.func (.func 68) #[] #[.pointer (some ⟨Bm, 0, none⟩)]] w (SeqPost w Z) := by
  have HC := Lib.hid (seq_any Bm b nn D0 Z w hD hl hm hown)
  clear hD hl hm hown
  go_enter Tryz.func66, Tryz.ntmps66
  go_wp2_with (go_at_call 98; refine HC.out.mono ?_; rintro e w2 ⟨v, M, rfl, h1, h2, h3⟩; have HH := Lib.hid (And.intro h1 (And.intro h2 h3)); clear h1 h2 h3)
  go_ret
  exact ⟨v, M, rfl, HH.out⟩
end Go.Proofs.YtmmeekmiildliaaGreatDoor
