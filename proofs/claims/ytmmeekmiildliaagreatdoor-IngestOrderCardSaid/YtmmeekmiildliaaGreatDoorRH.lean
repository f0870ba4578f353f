/- Copy. -/
import Derived.Test.YtmmeekmiildliaaGreatDoorRG
import Derived.Laws.EntriesVeiled
namespace Go.Proofs.YtmmeekmiildliaaGreatDoor
open Go.RowKit Go.Shelf
set_option linter.unusedSimpArgs false
set_option linter.unusedVariables false
attribute [local go_sem] Oper.semAt_some
section
variable {P : Program} {l n : Nat} {ops : Array Oper} {Q : Exit → Act → World → Prop} {S : World → Prop}
/-- No operation is a defer statement. -/
def noDefer (ops : Array Oper) : Bool := ops.toList.all fun o => match o.op with | .defer _ => false | _ => true
theorem noDefer_out (h : noDefer ops = true) : ∀ (i : Nat) (o : Oper), ops[i]? = some o → ∀ c, o.op ≠ .defer c := by
  intro i o ho c hc
  have hm : o ∈ ops.toList := by
    have : ops.toList[i]? = some o := by simpa using ho
    exact List.mem_of_getElem? this
  have := List.all_eq_true.1 h o hm
  rw [hc] at this
  cases this
theorem region_rnd {id : Nat} {a : Act} {w : World} (hm : P.follows .mixedOrders = true) (hd : noDefer ops = true) (hno : ∀ a w, ¬ Q .outgrown a w) (hS : S w.drew)
    (h : S w.drew → wpAnyH P .any ops Q S ops.size (Array.replicate ops.size false) a w.drew) : (Code.region id ops true).wpIn (Fence.wide.inRound l) n P Q a w := region_round hm (noDefer_out hd) hno hS h
end
section
variable {w w' : World} {g : Nat} {t : TypeId} {cs : Array Value}
def Blk (w : World) (g : Nat) (t : TypeId) (cs : Array Value) : Prop := w.heap[g]? = some (.cells cs t (0, 0))
theorem lt_of_heap {o : Obj} (h : w.heap[g]? = some o) : g < w.heap.size := (Array.getElem?_eq_some_iff.1 h).1
theorem Blk.lt (h : Blk w g t cs) : g < w.heap.size := lt_of_heap h
theorem Blk.cell (h : Blk w g t cs) (i : Nat) : w.cell? ⟨g, i, none⟩ = cs[i]? := cell_of_row w g i cs t (0, 0) h
theorem Blk.frozen (h : Blk w g t cs) (i : Nat) : w.frozen? ⟨g, i, none⟩ = false := by
  unfold Blk at h
  simp [World.frozen?, h]
theorem Blk.new (w : World) (t : TypeId) (cs : Array Value) : Blk (w.alloc (.cells cs t)) w.heap.size t cs := heap_alloc_new w _
theorem Blk.alloc (h : Blk w g t cs) (o : Obj) : Blk (w.alloc o) g t cs := (Below.heap_alloc w o g h.lt).trans h
theorem Blk.set_ (h : Blk w g t cs) (i : Nat) (u : Value) : Blk (w.setCell ⟨g, i, none⟩ u) g t (cs.setIfInBounds i u) := by
  unfold Blk at h ⊢
  simp [World.setCell, Array.getElem?_modify, h]
theorem Blk.far (h : Blk w g t cs) {p : Addr} (hp : g ≠ p.block) (u : Value) : Blk (w.setCell p u) g t cs := (Below.heap_setCell w p u g hp).trans h
theorem Blk.grown {row : Option Nat} (h : Blk w g t cs) (hg : w.grownBy w' row) (hr : row ≠ some g) : Blk w' g t cs := (hg.block g h.lt (Ne.symm hr)).trans h
theorem grown_none (h : Below w.heap.size w w') : w.grownBy w' none := ⟨h.os, h.tape, h.output, h.size, fun i hi _ => h.block i hi⟩
end
section
variable {W W' : World} {B size k : Nat} {e : TypeId} {v : Value} {xs : List Value}
theorem own_is (h : W.ownsRow B e size v k xs) : ∃ A c, v = .slice A k c := by
  rcases h.2 with ⟨rfl, h0⟩ | ⟨g, cap, cur, rfl, _⟩
  · exact ⟨none, 0, by rw [h0]⟩
  · exact ⟨_, _, rfl⟩
theorem _root_.Go.World.ownsRow.not_blk {g : Nat} {t : TypeId} {cs : Array Value} (h : W.ownsRow B e size v k xs) (hb : Blk W g t cs) (ht : t ≠ e) : v.ownBlock ≠ some g := by
  rcases h.2 with ⟨rfl, _⟩ | ⟨g', cap, cur, rfl, _, hc, _⟩
  · simp [Value.ownBlock]
  · intro e'
    obtain rfl : g' = g := by simpa [Value.ownBlock] using e'
    have := hc.symm.trans hb
    cases this; exact ht rfl
theorem own_not_loop {l : Nat} {r : Loop} (h : W.ownsRow B e size v k xs) (hl : W.heap[l]? = some (.loop r)) : v.ownBlock ≠ some l := by
  rcases h.2 with ⟨rfl, _⟩ | ⟨g', cap, cur, rfl, _, hc, _⟩
  · simp [Value.ownBlock]
  · intro e'
    obtain rfl : g' = l := by simpa [Value.ownBlock] using e'
    have := hc.symm.trans hl
    cases this
theorem own_not_def {l : Nat} {d : Option (List Deferred)} (h : W.ownsRow B e size v k xs) (hl : W.heap[l]? = some (.deferred d)) : v.ownBlock ≠ some l := by
  rcases h.2 with ⟨rfl, _⟩ | ⟨g', cap, cur, rfl, _, hc, _⟩
  · simp [Value.ownBlock]
  · intro e'
    obtain rfl : g' = l := by simpa [Value.ownBlock] using e'
    have := hc.symm.trans hl
    cases this
theorem loop_not_blk {l g : Nat} {r : Loop} {t : TypeId} {cs : Array Value} (hl : W.heap[l]? = some (.loop r)) (hb : Blk W g t cs) : l ≠ g := by
  rintro rfl; have := hl.symm.trans hb; cases this
theorem own_not_own {B2 size2 k2 : Nat} {e2 : TypeId} {v2 : Value} {xs2 : List Value} (h : W.ownsRow B e size v k xs) (h2 : W.ownsRow B2 e2 size2 v2 k2 xs2) (ht : e ≠ e2) : v.ownBlock = none ∨ v.ownBlock ≠ v2.ownBlock := by
  rcases h.2 with ⟨rfl, _⟩ | ⟨g', cap, cur, rfl, _, hc, _⟩
  · exact .inl rfl
  · refine .inr fun e' => ?_
    rcases h2.2 with ⟨rfl, _⟩ | ⟨g2, cap2, cur2, rfl, _, hc2, _⟩
    · simp [Value.ownBlock] at e'
    · obtain rfl : g' = g2 := by simpa [Value.ownBlock] using e'
      have := hc.symm.trans hc2
      cases this; exact ht rfl
theorem Owned.grown {z : RZ} {row : Option Nat} (h : Owned B W z) (hg : W.grownBy W' row) (h1 : ∀ g, row = some g → (Value.slice z.1.D z.1.n z.1.c).ownBlock ≠ some g ∧ (Value.slice z.1.G z.1.gn z.1.gc).ownBlock ≠ some g) : Owned B W' z := by
  refine ⟨h.d.kept hg ?_, h.g.kept hg ?_, h.sd, h.sg⟩
  · cases row with
    | none => exact (by cases hh : (Value.slice z.1.D z.1.n z.1.c).ownBlock <;> simp [hh])
    | some g => exact .inr (h1 g rfl).1
  · cases row with
    | none => exact (by cases hh : (Value.slice z.1.G z.1.gn z.1.gc).ownBlock <;> simp [hh])
    | some g => exact .inr (h1 g rfl).2
end
/-- What Copy keeps between two rounds. -/
structure CSt (w : World) (cb ob : Nat) (A : Option Addr) (n c : Nat) (v : Value) (k : Nat) (Y : List RZ) (W : World) : Prop where
  b : Blk W ob 46 #[v]
  i : Blk W (ob + 1) 46 #[.slice A n c]
  f : Blk W cb 106 #[.func (.func 72) #[] #[]]
  hb : w.heap.size ≤ ob
  bel : Below w.heap.size w W
  own : W.ownsRow w.heap.size 59 4 v k (cellsR Y)
  ys : ∀ y ∈ Y, Owned w.heap.size W y
section
variable {w W W' : World} {cb ob n c k : Nat} {A : Option Addr} {v : Value} {Y : List RZ}
theorem CSt.none (h : CSt w cb ob A n c v k Y W) (hg : W.grownBy W' none) : CSt w cb ob A n c v k Y W' :=
  ⟨h.b.grown hg (by simp), h.i.grown hg (by simp), h.f.grown hg (by simp), h.hb, h.bel.grown hg h.bel.size (fun k e => by cases e), h.own.kept hg (by cases v.ownBlock <;> simp), fun y hy => (h.ys y hy).grown hg (fun g e => by cases e)⟩
theorem CSt.loop {l : Nat} {r : Loop} (h : CSt w cb ob A n c v k Y W) (hl : W.heap[l]? = some (.loop r)) (hlw : w.heap.size ≤ l) (o : Obj) : CSt w cb ob A n c v k Y (W.putObj l o) := by
  have hg := grownBy_putObj' W l o
  exact ⟨h.b.grown hg (fun e => loop_not_blk hl h.b (Option.some.inj e)), h.i.grown hg (fun e => loop_not_blk hl h.i (Option.some.inj e)), h.f.grown hg (fun e => loop_not_blk hl h.f (Option.some.inj e)), h.hb,
    h.bel.grown hg h.bel.size (fun k e => by cases e; exact hlw), h.own.kept hg (.inr (own_not_loop h.own hl)),
    fun y hy => (h.ys y hy).grown hg (fun g e => by cases e; exact ⟨own_not_loop (h.ys y hy).d hl, own_not_loop (h.ys y hy).g hl⟩)⟩
theorem CSt.append {v' : Value} {z : RZ} (h : CSt w cb ob A n c v k Y W) (hg : W.grownBy W' v.ownBlock) (ho : W'.ownsRow w.heap.size 59 4 v' (k + 1) (cellsR (Y ++ [z]))) (hz : Owned w.heap.size W z) : CSt w cb ob A n c v' (k + 1) (Y ++ [z]) (W'.setCell ⟨ob, 0, Option.none⟩ v') := by
  have hb' := h.b.grown hg (h.own.not_blk h.b (by decide))
  have hne : ∀ y, Owned w.heap.size W y → Owned w.heap.size W' y := fun y hy => ⟨hy.d.kept hg (own_not_own hy.d h.own (by decide)), hy.g.kept hg (own_not_own hy.g h.own (by decide)), hy.sd, hy.sg⟩
  have hgs : W'.grownBy (W'.setCell ⟨ob, 0, Option.none⟩ v') (some ob) := ⟨rfl, rfl, rfl, by simp [World.setCell], fun i hi hne => Below.heap_setCell W' _ _ i (fun e => hne (by rw [e]))⟩
  refine ⟨?_, ?_, ?_, h.hb, ?_, ?_, ?_⟩
  · have := hb'.set_ 0 v'; simpa using this
  · exact (h.i.grown hg (h.own.not_blk h.i (by decide))).grown hgs (by simp)
  · refine (h.f.grown hg (h.own.not_blk h.f (by decide))).grown hgs ?_
    intro e
    obtain rfl := Option.some.inj e
    have := h.f.symm.trans h.b
    cases this
  · exact (h.bel.grown hg h.bel.size (fun k e => by have := (h.own.lt k e).1; exact this)).grown hgs (by have := h.bel.size; have := hg.size; omega) (fun k e => by cases e; exact h.hb)
  · exact ho.kept hgs (.inr (ho.not_blk hb' (by decide)))
  · intro y hy
    have hy' : Owned w.heap.size W' y := by
      rcases List.mem_append.1 hy with h1 | h1
      · exact hne y (h.ys y h1)
      · rw [List.mem_singleton.1 h1]; exact hne z hz
    exact hy'.grown hgs (fun g e => by cases e; exact ⟨hy'.d.not_blk hb' (by decide), hy'.g.not_blk hb' (by decide)⟩)
end
/-- What the region's loads look at. -/
def Sq (cb r : Nat) (cs : Array Value) (W : World) : Prop := Blk W cb 106 #[.func (.func 72) #[] #[]] ∧ Blk W r 59 cs
theorem Sq_none {cb r : Nat} {cs : Array Value} {W W' : World} (h : Sq cb r cs W) (hg : W.grownBy W' none) : Sq cb r cs W' := ⟨h.1.grown hg (by simp), h.2.grown hg (by simp)⟩
theorem Sq_own {cb r B size k : Nat} {cs : Array Value} {W W' : World} {v : Value} {xs : List Value} (h : Sq cb r cs W) (ho : W.ownsRow B 59 size v k xs) (hr : v.ownBlock ≠ some r) (hg : W.grownBy W' v.ownBlock) : Sq cb r cs W' := ⟨h.1.grown hg (ho.not_blk h.1 (by decide)), h.2.grown hg hr⟩
theorem Sq_set {cb r ob : Nat} {cs : Array Value} {W : World} {v : Value} (h : Sq cb r cs W) (hb : Blk W ob 46 #[v]) (u : Value) : Sq cb r cs (W.setCell ⟨ob, 0, none⟩ u) := by
  refine ⟨h.1.far (fun e => ?_) u, h.2.far (fun e => ?_) u⟩
  · simp only at e; subst e; have := h.1.symm.trans hb; cases this
  · simp only at e; subst e; have := h.2.symm.trans hb; cases this
theorem Sq_drew {cb r : Nat} {cs : Array Value} {W : World} (h : Sq cb r cs W) : Sq cb r cs W.drew := h
theorem Good.put {W : World} {l : Nat} {r : Loop} {z : RZ} (h : Good W z) (hl : W.heap[l]? = some (.loop r)) (o : Obj) : Good (W.putObj l o) z := by
  have hc : ∀ b i v, W.cell? ⟨b, i, none⟩ = some v → (W.putObj l o).cell? ⟨b, i, none⟩ = some v := by
    intro b i v hv
    have hb : b ≠ l := by rintro rfl; simp [World.cell?, hl] at hv
    rw [← hv]; simp only [World.cell?, World.putObj_heap_other hb]
  have hr : ∀ A xs, Row W A xs → Row (W.putObj l o) A xs := by
    intro A xs hA
    rcases hA with h0 | ⟨b, off, rfl, hcc⟩
    · exact .inl h0
    · exact .inr ⟨b, off, rfl, fun j u hu => hc _ _ _ (hcc j u hu)⟩
  exact { h with rd := hr _ _ h.rd, rg := hr _ _ h.rg }
theorem put_loop {W : World} {l : Nat} {o : Obj} (h : W.heap[l]? = some o) (o' : Obj) : (W.putObj l o').heap[l]? = some o' := World.putObj_heap_same (lt_of_heap h)
set_option maxRecDepth 100000 in
set_option maxHeartbeats 16000000 in
theorem copy_any (A : Option Addr) (n c : Nat) (Z : List RZ) (w : World) (hA : RowsC w A Z) (hn : n = Z.length) (hl9 : n ≤ 1000000) :
    Calls Tryz.prog 42 #[.slice A n c] w fun e w' => ∃ v Y, e = .returned v ∧ w'.ownsRow w.heap.size 59 4 v n (cellsR Y) ∧ Y.map Prod.snd = Z.map Prod.snd ∧ (∀ y ∈ Y, Owned w.heap.size w' y) ∧ Below w.heap.size w w' := by
  refine (callsIn_wide (n := 9)).1 ?_
  have HA := Lib.hid hA
  have HN := Lib.hid hn
  obtain ⟨i0, hi0, hz0, hz1, hz2⟩ := info_parts info27
  clear hA hn
  refine callsIn_of_wp_marks Tryz.func42 rfl trivial ?_ rfl
  simp only [Tryz.ntmps42, List.size_toArray, List.length_cons, List.length_nil, Nat.reduceAdd, Nat.reduceSub, Array.replicate_succ, Array.replicate_zero, List.push_toArray, List.append_toArray, List.nil_append, List.cons_append]
  gi_wp2_with (gi_at_make; refine wpListIn_make_own _ rfl _ _ 46 rfl w.heap.size 59 i0 (.agg #[.int .i64 0, .slice none 0 0, .int .i64 0, .slice none 0 0]) 4 Tryz.underlying46 hi0 hz0 hz1 .i64 .i64 _ n rfl rfl rfl (by rw [hz2]; omega) (by unfold maxLen; omega) (by simp) ?_)
  intro w2 ho2 hg2
  have HF2 := Lib.hid (show Blk w2 w.heap.size 106 #[.func (.func 72) #[] #[]] from (Blk.new w 106 _).grown hg2 (by simp))
  have HB2 := Lib.hid (show Below w.heap.size w w2 from (bpush (Below.refl _ _) _).grown hg2 (by simp) (fun k e => by cases e))
  have HO2 := Lib.hid ho2
  clear ho2 hg2
  gi_wp2
  refine ⟨trivial, (callsIn_wide.2 (values_maker A n c _)).mono ?_⟩
  rintro e w3 ⟨rfl, rfl⟩
  gi_wp2
  obtain ⟨W3, hW3⟩ : ∃ W3, (w2.alloc (Obj.cells #[Value.slice (some ⟨w.heap.size + 1, 0, none⟩) 0 n] 46)).alloc (Obj.cells #[Value.slice A n c] 46) = W3 := ⟨_, rfl⟩
  obtain ⟨ob, hob⟩ : ∃ ob, ob = w2.heap.size := ⟨_, rfl⟩
  have hob1 : w.heap.size + 1 ≤ ob := by rw [hob]; have := HF2.out.lt; omega
  have hs3 : W3.heap.size = ob + 2 := by rw [← hW3, hob]; simp
  have HST := Lib.hid (show CSt w w.heap.size ob A n c (.slice (some ⟨w.heap.size + 1, 0, none⟩) 0 n) 0 [] W3 by
    rw [← hW3, hob]
    refine ⟨(Blk.new w2 46 _).alloc _, ?_, (HF2.out.alloc _).alloc _, HB2.out.size, bpush (bpush HB2.out _) _, (HO2.out.alloc _).alloc _, fun y hy => by cases hy⟩
    have := Blk.new (w2.alloc (.cells #[.slice (some ⟨w.heap.size + 1, 0, none⟩) 0 n] 46)) 46 #[.slice A n c]
    simpa using this)
  rw [hW3, ← hob]
  clear hW3 hob HF2 HB2 HO2
  refine range_rec (by omega) (gf := 103) (lb := #[.pointer (some ⟨ob + 1, 0, none⟩)]) rfl (enters_of Tryz.func103 (by kernel_rfl) rfl) ?_
  intro fn rec hrec
  rw [hs3] at hrec ⊢
  obtain ⟨l, hl⟩ : ∃ l, l = ob + 2 + 1 := ⟨_, rfl⟩
  refine CallsIn.mono (values_in 8 (ob + 2 + 1) (ob + 1) n c A Z HN.out hl9
    (fun k W => W.heap[ob + 2 + 1]? = some (.loop (rec .ready none)) ∧ W.heap[ob + 2]? = some (.deferred (some [])) ∧ ∃ v Y, CSt w w.heap.size ob A n c v k Y W ∧ Y.map Prod.snd = (Z.map Prod.snd).take k)
    ?pays ?allocs ?round _ ?start) ?post
  case pays =>
    rintro k W ⟨_, _, v, Y, h, _⟩
    have := h.i.cell 0
    exact ⟨by simpa using this, HA.out.row.keep (Nat.le_refl _) h.bel⟩
  case allocs =>
    rintro k W o ⟨h1, h2, v, Y, h3, h4⟩
    exact ⟨(Below.heap_alloc W o _ (lt_of_heap h1)).trans h1, (Below.heap_alloc W o _ (lt_of_heap h2)).trans h2, v, Y, h3.none (World.grownBy_alloc W o none), h4⟩
  case start =>
    refine ⟨?_, ?_, _, [], (HST.out.none (World.grownBy_alloc _ _ none)).none (World.grownBy_alloc _ _ none), by simp⟩
    · have := World.alloc_heap_new (W3.alloc (.deferred (some []))) (.loop (rec .ready none))
      rw [World.size_alloc, hs3] at this
      exact this
    · have := World.alloc_heap_new W3 (.deferred (some []))
      rw [hs3] at this
      exact (Below.heap_alloc _ _ _ (by simp; omega)).trans this
  case round =>
    rintro k W hkz ⟨hL, hD, v, Y, hst, hym⟩
    have HGD := hst.bel
    obtain ⟨⟨⟨D, dn, dc, G, gn, gc⟩, ⟨t, L, q, X⟩⟩, hz⟩ : ∃ z, z = Z[k] := ⟨_, rfl⟩
    have hgd : Good W (⟨D, dn, dc, G, gn, gc⟩, ⟨t, L, q, X⟩) := by rw [hz]; exact (HA.out.good _ (List.getElem_mem hkz)).keep hst.bel
    have HZK := Lib.hid (show (Z.map Prod.snd).take (k + 1) = (Z.map Prod.snd).take k ++ [⟨t, L, q, X⟩] by
      rw [take_snoc (Z.map Prod.snd) k (by rw [List.length_map]; exact hkz), List.getElem_map, ← hz])
    rw [← hz, encR_eq]
    clear hz
    obtain ⟨Wa, hWa⟩ : ∃ Wa, Wa = W.alloc (.cells #[.int .i64 t, .slice D dn dc, .int .i64 q, .slice G gn gc] 59) := ⟨_, rfl⟩
    obtain ⟨V, hV⟩ : ∃ V, Wa.putObj (ob + 2 + 1) (.loop (rec .busy none)) = V := ⟨_, rfl⟩
    have hga : W.grownBy Wa none := by rw [hWa]; exact World.grownBy_alloc W _ none
    have hla : Wa.heap[ob + 2 + 1]? = some (.loop (rec .ready none)) := by rw [hWa]; exact (Below.heap_alloc W _ _ (lt_of_heap hL)).trans hL
    have hda : Wa.heap[ob + 2]? = some (.deferred (some [])) := by rw [hWa]; exact (Below.heap_alloc W _ _ (lt_of_heap hD)).trans hD
    have HLA := Lib.hid hla
    have hra : Blk Wa W.heap.size 59 #[.int .i64 t, .slice D dn dc, .int .i64 q, .slice G gn gc] := by rw [hWa]; exact Blk.new W 59 _
    have HRA := Lib.hid hra
    have hstv := (hst.none hga).loop hla (by have := hst.hb; omega) (.loop (rec .busy none))
    rw [hV] at hstv
    have HST := Lib.hid hstv
    have HLP := Lib.hid (show V.heap[ob + 2 + 1]? = some (.loop (rec .busy none)) by rw [← hV]; exact put_loop hla _)
    have HDF := Lib.hid (show V.heap[ob + 2]? = some (.deferred (some [])) by rw [← hV]; exact (World.putObj_heap_other (by omega)).trans hda)
    have HRV := Lib.hid (show Blk V W.heap.size 59 #[.int .i64 t, .slice D dn dc, .int .i64 q, .slice G gn gc] by rw [← hV]; exact (World.putObj_heap_other (Ne.symm (loop_not_blk hla hra))).trans hra)
    have HVR := Lib.hid (own_fresh hst.own)
    have HGD := Lib.hid (show Good V (⟨D, dn, dc, G, gn, gc⟩, ⟨t, L, q, X⟩) by
      rw [← hV]
      have h := hgd.keep (w' := Wa) ⟨hga.os, hga.tape, hga.output, hga.size, fun i hi => hga.block i hi (by simp)⟩
      exact h.put hla _)
    have HYM := Lib.hid hym
    have HSQ := Lib.hid (show Sq w.heap.size W.heap.size #[.int .i64 t, .slice D dn dc, .int .i64 q, .slice G gn gc] V from ⟨HST.out.f, HRV.out⟩)
    have HVW := Lib.hid (show w.heap.size ≤ V.heap.size from HST.out.bel.size)
    have HWa := Lib.hid hWa
    have HV := Lib.hid hV
    have hkn : k < n := by rw [HN.out]; exact hkz
    refine round_rec hrec hL rfl ?_
    clear hst hym hgd hga hla hda hra hstv hWa hV hL hD hrec hkz
    gi_wp2
    rw [← HWa.out]
    refine ⟨HLA.out, ?_⟩
    rw [HV.out]
    obtain ⟨rb, hrb⟩ : ∃ rb, rb = W.heap.size := ⟨_, rfl⟩
    rw [← hrb] at HSQ HVR HRV ⊢
    clear HWa HV HLA HRA hrb
    gi_wp2
    refine region_rnd (S := Sq w.heap.size rb #[.int .i64 t, .slice D dn dc, .int .i64 q, .slice G gn gc]) (by kernel_rfl) (by kernel_rfl) (fun _ _ h => h.elim) (Sq_drew HSQ.out) ?_
    intro hHeld
    obtain ⟨Vd, hVd⟩ : ∃ Vd, Vd = V.drew := ⟨_, rfl⟩
    have hbd : Below V.heap.size V Vd := by rw [hVd]; exact below_drewN (Below.refl _ _) 1
    have HST := Lib.hid (HST.out.none (grown_none hbd))
    have HLP := Lib.hid ((hbd.block _ (lt_of_heap HLP.out)).trans HLP.out)
    have HDF := Lib.hid ((hbd.block _ (lt_of_heap HDF.out)).trans HDF.out)
    have HGD := Lib.hid (HGD.out.keep hbd)
    have HVW := Lib.hid (show w.heap.size ≤ Vd.heap.size from Nat.le_trans HVW.out hbd.size)
    rw [← hVd] at hHeld ⊢
    clear hVd hbd
    refine take_want (i := 1) (v := ?v1q1) rfl (by kernel_rfl) (by kernel_rfl) (by kernel_rfl) (fun _ _ _ h => h) (by rfl) ?y1q1 (by assumption) ?r1q1
    case y1q1 => (intro w hSw; have q0 := hSw.1.cell 0; have r0 := hSw.2.cell 0; have r1 := hSw.2.cell 1; have r2 := hSw.2.cell 2; have r3 := hSw.2.cell 3; simp at q0 r0 r1 r2 r3; go_simp; all_goals with_reducible rfl)
    (try simp only [Act.put, List.setIfInBounds_toArray, List.set_cons_zero, List.set_cons_succ])
    refine take_want (i := 2) (v := ?v2q2) rfl (by kernel_rfl) (by kernel_rfl) (by kernel_rfl) (fun _ _ _ h => h) (by rfl) ?y2q2 (by assumption) ?r2q2
    case y2q2 => (intro w hSw; have q0 := hSw.1.cell 0; have r0 := hSw.2.cell 0; have r1 := hSw.2.cell 1; have r2 := hSw.2.cell 2; have r3 := hSw.2.cell 3; simp at q0 r0 r1 r2 r3; go_simp; all_goals with_reducible rfl)
    (try simp only [Act.put, List.setIfInBounds_toArray, List.set_cons_zero, List.set_cons_succ])
    refine wpAnyH_ready (rs := [0, 3]) (by kernel_rfl) (by simp) ?_
    refine AllReadyH.cons rfl (fun K hK => ?_) (AllReadyH.cons rfl (fun K hK => ?_) AllReadyH.nil)
    · have b0 := HST.out.b.cell 0
      simp at b0
      go_simp
      clear b0
      refine hK.out _ _ (hHeld) (fun hHeld => ?_)
      clear hK K
      (try simp only [Act.put, List.setIfInBounds_toArray, List.set_cons_zero, List.set_cons_succ])
      refine wpAnyH_ready (rs := [3]) (by kernel_rfl) (by simp) ?_
      refine AllReadyH.cons rfl (fun K hK => ?_) AllReadyH.nil
      go_simp
      (go_at_call 72; refine (own_any (⟨D, dn, dc, G, gn, gc⟩, ⟨t, L, q, X⟩) _ HGD.out).mono ?_; rintro e V2 ⟨⟨⟨D2, n2, c2, G2, gn2, gc2⟩, ⟨t2, L2, q2, X2⟩⟩, rfl, hy, ho, hb⟩)
      have hg := grown_none hb
      have HST := Lib.hid (HST.out.none hg)
      have HLP := Lib.hid ((hb.block _ (lt_of_heap HLP.out)).trans HLP.out)
      have HDF := Lib.hid ((hb.block _ (lt_of_heap HDF.out)).trans HDF.out)
      have HY := Lib.hid (show (⟨t2, L2, q2, X2⟩ : RV) = ⟨t, L, q, X⟩ from hy)
      have HOW := Lib.hid (ho.less (C := w.heap.size) HVW.out)
      have hs2 := Sq_none hHeld hg
      refine hK.out _ _ (hs2) (fun hHeld => ?_)
      clear hK K
      (try simp only [Act.put, List.setIfInBounds_toArray, List.set_cons_zero, List.set_cons_succ])
      clear hb ho hy hg hs2
      refine wpAnyH_ready (rs := [4]) (by kernel_rfl) (by simp) ?_
      refine AllReadyH.cons rfl (fun K hK => ?_) AllReadyH.nil
      simp only [encR_eq]
      go_simp
      obtain ⟨V3, hV3⟩ : ∃ V3, V3 = V2.alloc (.cells #[.int .i64 t2, .slice D2 n2 c2, .int .i64 q2, .slice G2 gn2 gc2] 59) := ⟨_, rfl⟩
      have hb3 : Below V2.heap.size V2 V3 := by rw [hV3]; exact bpush (Below.refl _ _) _
      have HNW := Lib.hid (show Row V3 (some ⟨V2.heap.size, 0, none⟩) [.int .i64 t2, .slice D2 n2 c2, .int .i64 q2, .slice G2 gn2 gc2] by rw [hV3]; exact Row.made rfl rfl)
      have hg := grown_none hb3
      have HST := Lib.hid (HST.out.none hg)
      have HLP := Lib.hid ((hb3.block _ (lt_of_heap HLP.out)).trans HLP.out)
      have HDF := Lib.hid ((hb3.block _ (lt_of_heap HDF.out)).trans HDF.out)
      have HOW := Lib.hid (HOW.out.keep hb3)
      have hs2 := Sq_none hHeld hg
      rw [← hV3]
      refine hK.out _ _ (hs2) (fun hHeld => ?_)
      clear hK K
      (try simp only [Act.put, List.setIfInBounds_toArray, List.set_cons_zero, List.set_cons_succ])
      clear hb3 hV3 hg hs2
      refine wpAnyH_ready (rs := [5]) (by kernel_rfl) (by simp) ?_
      refine AllReadyH.cons rfl (fun K hK => ?_) AllReadyH.nil
      refine step_append_at rfl _ _ 46 rfl w.heap.size 59 i0 (.agg #[.int .i64 0, .slice none 0 0, .int .i64 0, .slice none 0 0]) 4 64 Tryz.underlying46 hi0 hz0 hz1 hz2 rfl (by decide) v k (cellsR Y) (by first | rfl | (simp; done)) HST.out.own ⟨V2.heap.size, 0, none⟩ 1 1 [.int .i64 t2, .slice D2 n2 c2, .int .i64 q2, .slice G2 gn2 gc2] (by first | rfl | (simp; done)) rfl HNW.out.at' (by intro u hu; simp at hu; rcases hu with rfl | rfl | rfl | rfl <;> rfl) (by unfold maxLen; omega) (by omega) HST.out.bel.size ?_
      intro v5 w5 ho5 hg5 hd5
      have ho6 : w5.ownsRow w.heap.size 59 4 v5 (k + 1) (cellsR (Y ++ [(⟨D2, n2, c2, G2, gn2, gc2⟩, ⟨t2, L2, q2, X2⟩)])) := by rw [cellsR_app]; exact ho5
      obtain ⟨A5, c5, rfl⟩ := own_is ho6
      have hs5 := Sq_own hHeld HST.out.own HVR.out hg5
      have hbl : Blk w5 ob 46 #[v] := HST.out.b.grown hg5 (HST.out.own.not_blk HST.out.b (by decide))
      have hlp5 : w5.heap[ob + 2 + 1]? = some (.loop (rec .busy none)) := (hg5.block _ (lt_of_heap HLP.out) (Ne.symm (own_not_loop HST.out.own HLP.out))).trans HLP.out
      have HLP5 := Lib.hid (show (w5.setCell ⟨ob, 0, none⟩ (.slice A5 (k + 1) c5)).heap[ob + 2 + 1]? = some (.loop (rec .busy none)) from (Below.heap_setCell w5 ⟨ob, 0, none⟩ _ _ (fun e => loop_not_blk hlp5 hbl e)).trans hlp5)
      have hdf5 : w5.heap[ob + 2]? = some (.deferred (some [])) := (hg5.block _ (lt_of_heap HDF.out) (Ne.symm (own_not_def HST.out.own HDF.out))).trans HDF.out
      have HDF5 := Lib.hid (show (w5.setCell ⟨ob, 0, none⟩ (.slice A5 (k + 1) c5)).heap[ob + 2]? = some (.deferred (some [])) from (Below.heap_setCell w5 ⟨ob, 0, none⟩ _ _ (by simp)).trans hdf5)
      have HST5 := Lib.hid (HST.out.append hg5 ho6 HOW.out)
      have b0 := hbl.cell 0
      have bf := hbl.frozen 0
      simp at b0
      have HBL := Lib.hid hbl
      refine hK.out _ _ (hs5) (fun hHeld => ?_)
      clear hK K
      (try simp only [Act.put, List.setIfInBounds_toArray, List.set_cons_zero, List.set_cons_succ])
      clear ho5 hg5 hd5 ho6 hs5 hbl hlp5 hdf5
      refine wpAnyH_ready (rs := [6]) (by kernel_rfl) (by simp) ?_
      refine AllReadyH.cons rfl (fun K hK => ?_) AllReadyH.nil
      go_simp
      refine hK.out _ _ (Sq_set hHeld HBL.out _) (fun hHeld => ?_)
      clear hK K
      (try simp only [Act.put, List.setIfInBounds_toArray, List.set_cons_zero, List.set_cons_succ])
      refine wpAnyH_done (by kernel_rfl) ?_ _
      exact ⟨HLP5.out, rfl, put_loop HLP5.out _, (World.putObj_heap_other (by omega)).trans HDF5.out, _, _, HST5.out.loop HLP5.out (by omega) _, by rw [List.map_append, HYM.out, HZK.out]; congr 1; simp only [List.map_cons, List.map_nil]; rw [HY.out]⟩
    · go_simp
      (go_at_call 72; refine (own_any (⟨D, dn, dc, G, gn, gc⟩, ⟨t, L, q, X⟩) _ HGD.out).mono ?_; rintro e V2 ⟨⟨⟨D2, n2, c2, G2, gn2, gc2⟩, ⟨t2, L2, q2, X2⟩⟩, rfl, hy, ho, hb⟩)
      have hg := grown_none hb
      have HST := Lib.hid (HST.out.none hg)
      have HLP := Lib.hid ((hb.block _ (lt_of_heap HLP.out)).trans HLP.out)
      have HDF := Lib.hid ((hb.block _ (lt_of_heap HDF.out)).trans HDF.out)
      have HY := Lib.hid (show (⟨t2, L2, q2, X2⟩ : RV) = ⟨t, L, q, X⟩ from hy)
      have HOW := Lib.hid (ho.less (C := w.heap.size) HVW.out)
      have hs2 := Sq_none hHeld hg
      refine hK.out _ _ (hs2) (fun hHeld => ?_)
      clear hK K
      (try simp only [Act.put, List.setIfInBounds_toArray, List.set_cons_zero, List.set_cons_succ])
      clear hb ho hy hg hs2
      refine wpAnyH_ready (rs := [0, 4]) (by kernel_rfl) (by simp) ?_
      refine AllReadyH.cons rfl (fun K hK => ?_) (AllReadyH.cons rfl (fun K hK => ?_) AllReadyH.nil)
      · have b0 := HST.out.b.cell 0
        simp at b0
        go_simp
        clear b0
        refine hK.out _ _ (hHeld) (fun hHeld => ?_)
        clear hK K
        (try simp only [Act.put, List.setIfInBounds_toArray, List.set_cons_zero, List.set_cons_succ])
        refine wpAnyH_ready (rs := [4]) (by kernel_rfl) (by simp) ?_
        refine AllReadyH.cons rfl (fun K hK => ?_) AllReadyH.nil
        simp only [encR_eq]
        go_simp
        obtain ⟨V3, hV3⟩ : ∃ V3, V3 = V2.alloc (.cells #[.int .i64 t2, .slice D2 n2 c2, .int .i64 q2, .slice G2 gn2 gc2] 59) := ⟨_, rfl⟩
        have hb3 : Below V2.heap.size V2 V3 := by rw [hV3]; exact bpush (Below.refl _ _) _
        have HNW := Lib.hid (show Row V3 (some ⟨V2.heap.size, 0, none⟩) [.int .i64 t2, .slice D2 n2 c2, .int .i64 q2, .slice G2 gn2 gc2] by rw [hV3]; exact Row.made rfl rfl)
        have hg := grown_none hb3
        have HST := Lib.hid (HST.out.none hg)
        have HLP := Lib.hid ((hb3.block _ (lt_of_heap HLP.out)).trans HLP.out)
        have HDF := Lib.hid ((hb3.block _ (lt_of_heap HDF.out)).trans HDF.out)
        have HOW := Lib.hid (HOW.out.keep hb3)
        have hs2 := Sq_none hHeld hg
        rw [← hV3]
        refine hK.out _ _ (hs2) (fun hHeld => ?_)
        clear hK K
        (try simp only [Act.put, List.setIfInBounds_toArray, List.set_cons_zero, List.set_cons_succ])
        clear hb3 hV3 hg hs2
        refine wpAnyH_ready (rs := [5]) (by kernel_rfl) (by simp) ?_
        refine AllReadyH.cons rfl (fun K hK => ?_) AllReadyH.nil
        refine step_append_at rfl _ _ 46 rfl w.heap.size 59 i0 (.agg #[.int .i64 0, .slice none 0 0, .int .i64 0, .slice none 0 0]) 4 64 Tryz.underlying46 hi0 hz0 hz1 hz2 rfl (by decide) v k (cellsR Y) (by first | rfl | (simp; done)) HST.out.own ⟨V2.heap.size, 0, none⟩ 1 1 [.int .i64 t2, .slice D2 n2 c2, .int .i64 q2, .slice G2 gn2 gc2] (by first | rfl | (simp; done)) rfl HNW.out.at' (by intro u hu; simp at hu; rcases hu with rfl | rfl | rfl | rfl <;> rfl) (by unfold maxLen; omega) (by omega) HST.out.bel.size ?_
        intro v5 w5 ho5 hg5 hd5
        have ho6 : w5.ownsRow w.heap.size 59 4 v5 (k + 1) (cellsR (Y ++ [(⟨D2, n2, c2, G2, gn2, gc2⟩, ⟨t2, L2, q2, X2⟩)])) := by rw [cellsR_app]; exact ho5
        obtain ⟨A5, c5, rfl⟩ := own_is ho6
        have hs5 := Sq_own hHeld HST.out.own HVR.out hg5
        have hbl : Blk w5 ob 46 #[v] := HST.out.b.grown hg5 (HST.out.own.not_blk HST.out.b (by decide))
        have hlp5 : w5.heap[ob + 2 + 1]? = some (.loop (rec .busy none)) := (hg5.block _ (lt_of_heap HLP.out) (Ne.symm (own_not_loop HST.out.own HLP.out))).trans HLP.out
        have HLP5 := Lib.hid (show (w5.setCell ⟨ob, 0, none⟩ (.slice A5 (k + 1) c5)).heap[ob + 2 + 1]? = some (.loop (rec .busy none)) from (Below.heap_setCell w5 ⟨ob, 0, none⟩ _ _ (fun e => loop_not_blk hlp5 hbl e)).trans hlp5)
        have hdf5 : w5.heap[ob + 2]? = some (.deferred (some [])) := (hg5.block _ (lt_of_heap HDF.out) (Ne.symm (own_not_def HST.out.own HDF.out))).trans HDF.out
        have HDF5 := Lib.hid (show (w5.setCell ⟨ob, 0, none⟩ (.slice A5 (k + 1) c5)).heap[ob + 2]? = some (.deferred (some [])) from (Below.heap_setCell w5 ⟨ob, 0, none⟩ _ _ (by simp)).trans hdf5)
        have HST5 := Lib.hid (HST.out.append hg5 ho6 HOW.out)
        have b0 := hbl.cell 0
        have bf := hbl.frozen 0
        simp at b0
        have HBL := Lib.hid hbl
        refine hK.out _ _ (hs5) (fun hHeld => ?_)
        clear hK K
        (try simp only [Act.put, List.setIfInBounds_toArray, List.set_cons_zero, List.set_cons_succ])
        clear ho5 hg5 hd5 ho6 hs5 hbl hlp5 hdf5
        refine wpAnyH_ready (rs := [6]) (by kernel_rfl) (by simp) ?_
        refine AllReadyH.cons rfl (fun K hK => ?_) AllReadyH.nil
        go_simp
        refine hK.out _ _ (Sq_set hHeld HBL.out _) (fun hHeld => ?_)
        clear hK K
        (try simp only [Act.put, List.setIfInBounds_toArray, List.set_cons_zero, List.set_cons_succ])
        refine wpAnyH_done (by kernel_rfl) ?_ _
        exact ⟨HLP5.out, rfl, put_loop HLP5.out _, (World.putObj_heap_other (by omega)).trans HDF5.out, _, _, HST5.out.loop HLP5.out (by omega) _, by rw [List.map_append, HYM.out, HZK.out]; congr 1; simp only [List.map_cons, List.map_nil]; rw [HY.out]⟩
      · simp only [encR_eq]
        go_simp
        obtain ⟨V3, hV3⟩ : ∃ V3, V3 = V2.alloc (.cells #[.int .i64 t2, .slice D2 n2 c2, .int .i64 q2, .slice G2 gn2 gc2] 59) := ⟨_, rfl⟩
        have hb3 : Below V2.heap.size V2 V3 := by rw [hV3]; exact bpush (Below.refl _ _) _
        have HNW := Lib.hid (show Row V3 (some ⟨V2.heap.size, 0, none⟩) [.int .i64 t2, .slice D2 n2 c2, .int .i64 q2, .slice G2 gn2 gc2] by rw [hV3]; exact Row.made rfl rfl)
        have hg := grown_none hb3
        have HST := Lib.hid (HST.out.none hg)
        have HLP := Lib.hid ((hb3.block _ (lt_of_heap HLP.out)).trans HLP.out)
        have HDF := Lib.hid ((hb3.block _ (lt_of_heap HDF.out)).trans HDF.out)
        have HOW := Lib.hid (HOW.out.keep hb3)
        have hs2 := Sq_none hHeld hg
        rw [← hV3]
        refine hK.out _ _ (hs2) (fun hHeld => ?_)
        clear hK K
        (try simp only [Act.put, List.setIfInBounds_toArray, List.set_cons_zero, List.set_cons_succ])
        clear hb3 hV3 hg hs2
        refine wpAnyH_ready (rs := [0]) (by kernel_rfl) (by simp) ?_
        refine AllReadyH.cons rfl (fun K hK => ?_) AllReadyH.nil
        have b0 := HST.out.b.cell 0
        simp at b0
        go_simp
        clear b0
        refine hK.out _ _ (hHeld) (fun hHeld => ?_)
        clear hK K
        (try simp only [Act.put, List.setIfInBounds_toArray, List.set_cons_zero, List.set_cons_succ])
        refine wpAnyH_ready (rs := [5]) (by kernel_rfl) (by simp) ?_
        refine AllReadyH.cons rfl (fun K hK => ?_) AllReadyH.nil
        refine step_append_at rfl _ _ 46 rfl w.heap.size 59 i0 (.agg #[.int .i64 0, .slice none 0 0, .int .i64 0, .slice none 0 0]) 4 64 Tryz.underlying46 hi0 hz0 hz1 hz2 rfl (by decide) v k (cellsR Y) (by first | rfl | (simp; done)) HST.out.own ⟨V2.heap.size, 0, none⟩ 1 1 [.int .i64 t2, .slice D2 n2 c2, .int .i64 q2, .slice G2 gn2 gc2] (by first | rfl | (simp; done)) rfl HNW.out.at' (by intro u hu; simp at hu; rcases hu with rfl | rfl | rfl | rfl <;> rfl) (by unfold maxLen; omega) (by omega) HST.out.bel.size ?_
        intro v5 w5 ho5 hg5 hd5
        have ho6 : w5.ownsRow w.heap.size 59 4 v5 (k + 1) (cellsR (Y ++ [(⟨D2, n2, c2, G2, gn2, gc2⟩, ⟨t2, L2, q2, X2⟩)])) := by rw [cellsR_app]; exact ho5
        obtain ⟨A5, c5, rfl⟩ := own_is ho6
        have hs5 := Sq_own hHeld HST.out.own HVR.out hg5
        have hbl : Blk w5 ob 46 #[v] := HST.out.b.grown hg5 (HST.out.own.not_blk HST.out.b (by decide))
        have hlp5 : w5.heap[ob + 2 + 1]? = some (.loop (rec .busy none)) := (hg5.block _ (lt_of_heap HLP.out) (Ne.symm (own_not_loop HST.out.own HLP.out))).trans HLP.out
        have HLP5 := Lib.hid (show (w5.setCell ⟨ob, 0, none⟩ (.slice A5 (k + 1) c5)).heap[ob + 2 + 1]? = some (.loop (rec .busy none)) from (Below.heap_setCell w5 ⟨ob, 0, none⟩ _ _ (fun e => loop_not_blk hlp5 hbl e)).trans hlp5)
        have hdf5 : w5.heap[ob + 2]? = some (.deferred (some [])) := (hg5.block _ (lt_of_heap HDF.out) (Ne.symm (own_not_def HST.out.own HDF.out))).trans HDF.out
        have HDF5 := Lib.hid (show (w5.setCell ⟨ob, 0, none⟩ (.slice A5 (k + 1) c5)).heap[ob + 2]? = some (.deferred (some [])) from (Below.heap_setCell w5 ⟨ob, 0, none⟩ _ _ (by simp)).trans hdf5)
        have HST5 := Lib.hid (HST.out.append hg5 ho6 HOW.out)
        have b0 := hbl.cell 0
        have bf := hbl.frozen 0
        simp at b0
        have HBL := Lib.hid hbl
        refine hK.out _ _ (hs5) (fun hHeld => ?_)
        clear hK K
        (try simp only [Act.put, List.setIfInBounds_toArray, List.set_cons_zero, List.set_cons_succ])
        clear ho5 hg5 hd5 ho6 hs5 hbl hlp5 hdf5
        refine wpAnyH_ready (rs := [6]) (by kernel_rfl) (by simp) ?_
        refine AllReadyH.cons rfl (fun K hK => ?_) AllReadyH.nil
        go_simp
        refine hK.out _ _ (Sq_set hHeld HBL.out _) (fun hHeld => ?_)
        clear hK K
        (try simp only [Act.put, List.setIfInBounds_toArray, List.set_cons_zero, List.set_cons_succ])
        refine wpAnyH_done (by kernel_rfl) ?_ _
        exact ⟨HLP5.out, rfl, put_loop HLP5.out _, (World.putObj_heap_other (by omega)).trans HDF5.out, _, _, HST5.out.loop HLP5.out (by omega) _, by rw [List.map_append, HYM.out, HZK.out]; congr 1; simp only [List.map_cons, List.map_nil]; rw [HY.out]⟩
  case post =>
    rintro e W' ⟨⟨v0, rfl⟩, hL, hD, v, Y, hst, hym⟩
    refine ⟨⟨_, rfl⟩, .inl ⟨hL, ?_⟩⟩
    obtain ⟨V, hV⟩ : ∃ V, W'.putObj (ob + 2 + 1) (.loop (rec .exhausted none)) = V := ⟨_, rfl⟩
    rw [hV]
    have HST := Lib.hid (show CSt w w.heap.size ob A n c v Z.length Y V by rw [← hV]; exact hst.loop hL (by omega) _)
    have HDF := Lib.hid (show V.heap[ob + 2]? = some (.deferred (some [])) by rw [← hV]; exact (World.putObj_heap_other (by omega)).trans hD)
    have HYM := Lib.hid (show Y.map Prod.snd = Z.map Prod.snd by rw [hym, List.take_of_length_le (by simp)])
    have hb0 := HST.out.b.cell 0
    simp at hb0
    obtain ⟨vA, vc, rfl⟩ := own_is HST.out.own
    clear hst hD hym hV hrec hL
    gi_wp2
    refine ⟨by simp, .inl ⟨_, _, rfl, run_takeDeferred HDF.out, ?_⟩⟩
    refine ⟨_, results_tmp rfl _ _ _, _, Y, rfl, ?_, HYM.out, ?_, ?_⟩
    · rw [HN.out]; exact ownsRow_putObj HST.out.own (.deferred none) HDF.out rfl
    · intro y hy
      have h := HST.out.ys y hy
      exact h.grown (grownBy_putObj' V (ob + 2) (.deferred none)) (fun g e => by cases e; exact ⟨own_not_def h.d HDF.out, own_not_def h.g HDF.out⟩)
    · exact HST.out.bel.grown (grownBy_putObj' V (ob + 2) (.deferred none)) HST.out.bel.size (fun k e => by cases e; omega)
end Go.Proofs.YtmmeekmiildliaaGreatDoor
