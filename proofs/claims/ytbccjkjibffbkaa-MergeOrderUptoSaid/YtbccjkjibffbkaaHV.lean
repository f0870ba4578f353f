/- Lists (9). -/
import Derived.Test.YtbccjkjibffbkaaHT
import Derived.Test.YtbccjkjibffbkaaMR
namespace Go.Proofs.Ytbccjkjibffbkaa
open Go.RowKit Go.Shelf
set_option linter.unusedSimpArgs false
set_option linter.unusedVariables false
attribute [local go_sem] Oper.semAt_some
theorem refF_sorts {q : Nat} {K K' : List RV} (h : SortsTo K K') (hK : ∀ a ∈ K, OkR q a) : refF [] K' = refF [] K :=
  (fold_one (q := q) ⟨h.sorted, fun _ => rfl⟩ (fun a ha => hK a (h.mem ha))).symm.trans (fold_one h hK)
/-- What Lists answers. -/
noncomputable def listsR (L : List Le) : List RV × Int := if allS L = true then refF [] ((L.map Le.Z).flatten.map Prod.snd) else ([], 131)
def ListsPost (w : World) (L : List Le) (e : Ending) (w' : World) : Prop := ∃ v Y x, e = .returned (.tuple #[v, .int .i64 x]) ∧ listsR L = (Y.map Prod.snd, x) ∧ w'.ownsRow w.heap.size 39 4 v Y.length (cellsR Y) ∧ (∀ y ∈ Y, Owned w.heap.size w' y) ∧ Below w.heap.size w w'
/-- What is too much in what came is too much in all. -/
theorem refF_same {q : Nat} {K P T : List RZ} {e : Int} (hK : ∀ z ∈ K, OkR q z.2) (hs : SameF sF K (P ++ T)) (he : e ≠ 0) (h : refF [] (P.map Prod.snd) = ([], e)) : refF [] (K.map Prod.snd) = ([], e) := by
  have hP : ∀ a ∈ P.map Prod.snd, OkR q a := fun a ha => by
    obtain ⟨z, hz, rfl⟩ := List.mem_map.1 ha
    exact hK z (hs.mem (List.mem_append_left _ hz))
  have hKK : ∀ a ∈ K.map Prod.snd, OkR q a := fun a ha => by
    obtain ⟨z, hz, rfl⟩ := List.mem_map.1 ha
    exact hK z hz
  have nn : ∀ {O : List RV}, (∀ a ∈ ([] : List RV), OkR q a) := fun a ha => absurd ha List.not_mem_nil
  rcases refF_all (q := q) (P.map Prod.snd) [] [] FoldOf.nil (nn (O := [])) (nn (O := [])) hP with ⟨h1, _⟩ | ⟨h1, h2, k, h3⟩
  · rw [h] at h1; exact absurd h1 he
  · rw [h] at h1
    rcases refF_all (q := q) (K.map Prod.snd) [] [] FoldOf.nil (nn (O := [])) (nn (O := [])) hKK with ⟨_, g2⟩ | ⟨g1, g2, _⟩
    · have g3 := g2.ok k
      rw [List.nil_append] at g3 h3
      have e1 : (K.map Prod.snd).filter (keyV k) = (P.map Prod.snd).filter (keyV k) ++ (T.map Prod.snd).filter (keyV k) := by
        rw [← List.filter_append, ← List.map_append, List.filter_map, List.filter_map]
        exact congrArg (List.map Prod.snd) (hs k).symm
      rw [e1] at g3
      exact absurd g3 (grp_more (q := q) _ _ h3)
    · exact Prod.ext g2 (g1.trans h1.symm)
/-- What the drawn regions look at. -/
structure Sl (ob rb : Nat) (v x0 x1 x2 x3 : Value) (g o : Nat) (y0 y1 y2 y3 : Value) (W : World) : Prop where
  b : Blk W ob 28 #[v]
  r : Blk W rb 39 #[x0, x1, x2, x3]
  p0 : W.cell? ⟨g, o, none⟩ = some y0
  p1 : W.cell? ⟨g, o + 1, none⟩ = some y1
  p2 : W.cell? ⟨g, o + 2, none⟩ = some y2
  p3 : W.cell? ⟨g, o + 3, none⟩ = some y3
theorem Sl.keep {ob rb g o : Nat} {v x0 x1 x2 x3 y0 y1 y2 y3 : Value} {W W' : World} (h : Sl ob rb v x0 x1 x2 x3 g o y0 y1 y2 y3 W) (hb : Below W.heap.size W W') : Sl ob rb v x0 x1 x2 x3 g o y0 y1 y2 y3 W' :=
  ⟨(hb.block _ h.b.lt).trans h.b, (hb.block _ h.r.lt).trans h.r, cell_later hb h.p0, cell_later hb h.p1, cell_later hb h.p2, cell_later hb h.p3⟩
theorem Sl.grown {ob rb g o bx : Nat} {v x0 x1 x2 x3 y0 y1 y2 y3 : Value} {W W' : World} (h : Sl ob rb v x0 x1 x2 x3 g o y0 y1 y2 y3 W) (hg : W.grownBy W' (some bx)) (h1 : ob ≠ bx) (h2 : rb ≠ bx) (h3 : g ≠ bx) : Sl ob rb v x0 x1 x2 x3 g o y0 y1 y2 y3 W' := by
  have hc : ∀ j u, W.cell? ⟨g, j, none⟩ = some u → W'.cell? ⟨g, j, none⟩ = some u := fun j u hu => by
    have hb := hg.block g (lt_of_cell hu) (fun e => h3 (Option.some.inj e))
    unfold World.cell? at hu ⊢
    simp only at hu ⊢
    rw [hb]; exact hu
  exact ⟨h.b.grown hg (fun e => h1 (Option.some.inj e).symm), h.r.grown hg (fun e => h2 (Option.some.inj e).symm), hc _ _ h.p0, hc _ _ h.p1, hc _ _ h.p2, hc _ _ h.p3⟩
theorem grown_four (W : World) (g : Nat) (x0 x1 x2 x3 : Value) : W.grownBy ((((W.setCell ⟨g, 0, none⟩ x0).setCell ⟨g, 1, none⟩ x1).setCell ⟨g, 2, none⟩ x2).setCell ⟨g, 3, none⟩ x3) (some g) :=
  ⟨rfl, rfl, rfl, by simp [World.setCell], fun i hi hne => by
    have hk : i ≠ g := fun e => hne (by rw [e])
    exact (Below.heap_setCell _ _ _ i hk).trans ((Below.heap_setCell _ _ _ i hk).trans ((Below.heap_setCell _ _ _ i hk).trans (Below.heap_setCell W _ _ i hk)))⟩
theorem Ls.blk {w W1 W W' : World} {ob bx : Nat} {v : Value} {Y : List RZ} {cs : Array Value} (h : Ls w W1 ob v Y W) (hb : Blk W bx 39 cs) (hg : W.grownBy W' (some bx)) (hn : w.heap.size ≤ bx) (hne : bx ≠ ob) (hv : v.ownBlock ≠ some bx) : Ls w W1 ob v Y W' := by
  have ne : ∀ {i t} {ds : Array Value}, Blk W i t ds → t ≠ 39 → some bx ≠ some i := fun hi ht e => by
    cases e
    have := hi.symm.trans hb
    cases this; exact ht rfl
  have hk := KT.blk hb hg hn (by decide) (by decide)
  exact ⟨h.b.grown hg (ne h.b (by decide)), h.r2.grown hg (ne h.r2 (by decide)), h.r3.grown hg (ne h.r3 (by decide)), h.lt, h.kt.trans hk, h.bel.trans hk.1,
    h.own.kept hg (.inr hv), fun y hy => (h.ys y hy).imp id fun k => k.grown hg (fun g e => by cases e; exact ⟨k.d.not_blk hb (by decide), k.g.not_blk hb (by decide)⟩)⟩
theorem Ls.own' {w W1 W : World} {ob g n c : Nat} {Y : List RZ} (h : Ls w W1 ob (.slice (some ⟨g, 0, Option.none⟩) n c) Y W) : W.ownsRow w.heap.size 39 4 (.slice (some ⟨g, 0, Option.none⟩) n c) n (cellsR Y) := by
  have hn : n = Y.length := by
    rcases h.own.2 with ⟨e, _⟩ | ⟨g', cap, cur, e, _⟩
    · cases e
    · cases e; rfl
  have := h.own
  rw [← hn] at this; exact this
theorem blk4 {W : World} {g : Nat} {t : TypeId} {x0 x1 x2 x3 : Value} (h : Blk W g t #[x0, x1, x2, x3]) : W.cell? ⟨g, 0, none⟩ = some x0 ∧ W.cell? ⟨g, 1, none⟩ = some x1 ∧ W.cell? ⟨g, 2, none⟩ = some x2 ∧ W.cell? ⟨g, 3, none⟩ = some x3 :=
  ⟨h.cell 0, h.cell 1, h.cell 2, h.cell 3⟩
theorem last_cells {W : World} {g : Nat} {P : List RZ} {a : RZ} (h : Row W (some ⟨g, 0, none⟩) (cellsR (P ++ [a]))) :
    W.cell? ⟨g, P.length * 4, none⟩ = some (.int .i64 a.2.t) ∧ W.cell? ⟨g, P.length * 4 + 1, none⟩ = some (.slice a.1.D a.1.n a.1.c) ∧ W.cell? ⟨g, P.length * 4 + 2, none⟩ = some (.int .i64 a.2.count) ∧ W.cell? ⟨g, P.length * 4 + 3, none⟩ = some (.slice a.1.G a.1.gn a.1.gc) := by
  obtain ⟨b, off, e, p0, p1, p2, p3⟩ := row4 (k := P.length) h (by simp)
  cases e
  have e2 : (P ++ [a])[P.length]'(by simp) = a := by simp
  rw [e2] at p0 p1 p2 p3
  simp only [Nat.zero_add] at p0 p1 p2 p3
  exact ⟨p0, p1, p2, p3⟩
theorem flat_mem {L : List Le} {z : RZ} (h : z ∈ (L.map Le.Z).flatten) : ∃ x ∈ L, z ∈ x.Z := by
  obtain ⟨l, hl, hz⟩ := List.mem_flatten.1 h
  obtain ⟨x, hx, rfl⟩ := List.mem_map.1 hl
  exact ⟨x, hx, hz⟩
theorem allS_iff (L : List Le) : allS L = true ↔ ∀ x ∈ L, SrtD x.Z := by
  unfold allS
  rw [List.all_eq_true]
  exact ⟨fun h x hx => (srtB_iff _).1 (h x hx), fun h x hx => (srtB_iff _).2 (h x hx)⟩
set_option maxRecDepth 100000 in
set_option maxHeartbeats 16000000 in
theorem lists_any (q : Nat) (A : Option Addr) (n c : Nat) (L : List Le) (w : World) (hL : LsIn w A L) (hn : n = L.length) (hl : L.length ≤ 1900000) (hq : ∀ z ∈ (L.map Le.Z).flatten, OkR q z.2) (ht : (L.map Le.Z).flatten.length ≤ 1000000) :
    Calls Try.prog 9 #[.slice A n c] w (ListsPost w L) := by
  refine (callsIn_wide (n := 9)).1 ?_
  have HIN := Lib.hid hL
  have HN := Lib.hid hn
  have HLL := Lib.hid hl
  have HQ := Lib.hid hq
  have HT := Lib.hid ht
  obtain ⟨i0, hi0, hz0, hz1, hz2⟩ := info_parts info27
  clear hL hn hl hq ht
  refine callsIn_of_wp_marks Try.func9 rfl trivial ?_ rfl
  simp only [Try.ntmps9, List.size_toArray, List.length_cons, List.length_nil, Nat.reduceAdd, Nat.reduceSub, Array.replicate_succ, Array.replicate_zero, List.push_toArray, List.append_toArray, List.nil_append, List.cons_append]
  gi_wp2
  obtain ⟨W1, hW1⟩ : ∃ W1, W1 = (w.alloc (.cells #[.slice none 0 0] 28)).alloc (.cells #[.int .i64 0] 29) := ⟨_, rfl⟩
  have hb1 : Below w.heap.size w W1 := by rw [hW1]; exact bpush (bpush (Below.refl _ _) _) _
  have hs1 : W1.heap.size = w.heap.size + 2 := by rw [hW1]; simp
  have HR2 := Lib.hid (show Blk W1 w.heap.size 28 #[.slice none 0 0] by rw [hW1]; exact (Blk.new w 28 _).alloc _)
  have HR3 := Lib.hid (show Blk W1 (w.heap.size + 1) 29 #[.int .i64 0] by rw [hW1]; have := Blk.new (w.alloc (.cells #[.slice none 0 0] 28)) 29 #[.int .i64 0]; simpa using this)
  rw [← hW1]
  have HB1 := Lib.hid hb1
  clear hW1 hb1
  refine ⟨trivial, (callsIn_wide.2 (allsorted_any A n c L W1 (HIN.out.keep HB1.out) HN.out)).mono ?_⟩
  rintro e w2 ⟨rfl, hb2⟩
  have HB2 := Lib.hid (bthen HB1.out hb2)
  have HR2 := Lib.hid (HR2.out.below hb2 (by omega))
  have HR3 := Lib.hid (HR3.out.below hb2 (by omega))
  have hs2 : w.heap.size + 2 ≤ w2.heap.size := by have := hb2.size; omega
  clear hb2
  obtain ⟨s, hs⟩ : ∃ s, s = allS L := ⟨_, rfl⟩
  rw [← hs]
  have HS := Lib.hid hs
  clear hs
  dsimp only
  cases s
  case false =>
    have b2 := HR2.out.cell 0
    have f2 := HR2.out.frozen 0
    have b3 := HR3.out.cell 0
    have f3 := HR3.out.frozen 0
    simp at b2 b3
    gi_wp2
    obtain ⟨we, hwe⟩ : ∃ we, we = (w2.setCell ⟨w.heap.size, 0, none⟩ (.slice none 0 0)).setCell ⟨w.heap.size + 1, 0, none⟩ (.int .i64 131) := ⟨_, rfl⟩
    have q2 : Blk we w.heap.size 28 #[.slice none 0 0] := by rw [hwe]; have h := (HR2.out.set_ 0 (.slice none 0 0)).far (p := ⟨w.heap.size + 1, 0, none⟩) (by simp) (.int .i64 131); simpa using h
    have q3 : Blk we (w.heap.size + 1) 29 #[.int .i64 131] := by rw [hwe]; have h := (HR3.out.far (p := ⟨w.heap.size, 0, none⟩) (by simp) (.slice none 0 0)).set_ 0 (.int .i64 131); simpa using h
    have qB : Below w.heap.size w we := by rw [hwe]; exact bset (bset HB2.out (Nat.le_refl _) _) (by omega) _
    rw [← hwe]
    have c2 := q2.cell 0
    have c3 := q3.cell 0
    simp at c2 c3
    have hno : ¬ allS L = true := by rw [← HS.out]; decide
    refine ⟨.tuple #[.slice none 0 0, .int .i64 131], by simp [results, Try.results9, go_sem, c2, c3], ?_⟩
    exact ⟨_, [], 131, rfl, if_neg hno, World.ownsRow_nil _ _ _ _, (fun y hy => absurd hy List.not_mem_nil), qB⟩
  case true =>
  have HSR := Lib.hid (show ∀ x ∈ L, SortedF sF x.Z from fun x hx => srt_sorted ((allS_iff L).1 HS.out.symm x hx))
  gi_wp2
  refine ⟨trivial, (callsIn_wide.2 (all_maker A n c _)).mono ?_⟩
  rintro e w4 ⟨rfl, rfl⟩
  gi_wp2
  obtain ⟨W3, hW3⟩ : ∃ W3, (w2.alloc (.cells #[.slice none 0 0] 28)).alloc (.cells #[.slice A n c] 25) = W3 := ⟨_, rfl⟩
  obtain ⟨ob, hob⟩ : ∃ ob, ob = w2.heap.size := ⟨_, rfl⟩
  have hsz3 : W3.heap.size = ob + 2 := by rw [← hW3, hob]; simp
  have hb43 : Below w2.heap.size w2 W3 := by rw [← hW3]; exact bpush (bpush (Below.refl _ _) _) _
  have HLS := Lib.hid (show Ls w W3 ob (.slice none 0 0) [] W3 from ⟨by rw [← hW3, hob]; exact (Blk.new w2 28 _).alloc _, HR2.out.below hb43 (by omega), HR3.out.below hb43 (by omega), by omega, KT.refl _ _, bthen HB2.out hb43, World.ownsRow_nil _ _ _ _, fun y hy => absurd hy List.not_mem_nil⟩)
  have HBS := Lib.hid (show Blk W3 (ob + 1) 25 #[.slice A n c] by rw [← hW3, hob]; have := Blk.new (w2.alloc (.cells #[.slice none 0 0] 28)) 25 #[.slice A n c]; simpa using this)
  have hob1 : w.heap.size + 2 ≤ ob := by omega
  rw [hW3, ← hob]
  clear hW3 hob hb43 HB2 HB1 HR2 HR3 hs2 hs1
  refine range_rec (by omega) (gf := 32) (lb := #[.pointer (some ⟨ob + 1, 0, none⟩)]) rfl (enters_of Try.func32 (by kernel_rfl) rfl) ?_
  intro fn rec hrec
  rw [hsz3] at hrec ⊢
  obtain ⟨W5, hW5⟩ : ∃ W5, W5 = (W3.alloc (.deferred (some []))).alloc (.loop (rec .ready none)) := ⟨_, rfl⟩
  have hb5 : Below W3.heap.size W3 W5 := by rw [hW5]; exact bpush (bpush (Below.refl _ _) _) _
  have h5l : W5.heap[ob + 2 + 1]? = some (.loop (rec .ready none)) := by
    rw [hW5]
    have := World.alloc_heap_new (W3.alloc (.deferred (some []))) (.loop (rec .ready none))
    rw [World.size_alloc, hsz3] at this
    exact this
  have h5d : W5.heap[ob + 2]? = some (.deferred (some [])) := by
    rw [hW5]
    have := World.alloc_heap_new W3 (.deferred (some []))
    rw [hsz3] at this
    exact (Below.heap_alloc _ _ _ (by simp; omega)).trans this
  have h5b : W5.cell? ⟨ob + 1, 0, none⟩ = some (.slice A n c) := by
    have h0 : Blk W5 (ob + 1) 25 #[.slice A n c] := (hb5.block _ HBS.out.lt).trans HBS.out
    have h := h0.cell 0
    simpa using h
  have HLS5 := Lib.hid (HLS.out.none (grown_none hb5))
  rw [← hW5]
  clear hW5 hb5
  refine CallsIn.mono (all_in 8 (by omega) (ob + 2 + 1) (ob + 1) n c A L w W5 HN.out HLL.out h5b HIN.out HLS5.out.bel HSR.out
    (fun pre W => W.heap[ob + 2 + 1]? = some (.loop (rec .ready none)) ∧ W.heap[ob + 2]? = some (.deferred (some [])) ∧ ∃ v Y, Ls w W ob v Y W ∧ Y.length ≤ pre.length ∧ JnSt q (pre.map Prod.snd) (Y.map Prod.snd))
    (fun pre W => W.heap[ob + 2 + 1]? = some (.loop (rec .done (some .ret))) ∧ W.heap[ob + 2]? = some (.deferred (some [])) ∧ ∃ x : Int, Blk W w.heap.size 28 #[.slice none 0 0] ∧ Blk W (w.heap.size + 1) 29 #[.int .i64 x] ∧ Below w.heap.size w W ∧ refF [] ((L.map Le.Z).flatten.map Prod.snd) = ([], x))
    ?keep ?round ?start) ?post
  case keep =>
    rintro pre W1 W2 ⟨h1, h2, v, Y, h3, h4⟩ hk hb1 hb2
    exact ⟨hk.loop h1, hk.def_ h2, v, Y, h3.ko hk hb2, h4⟩
  case start => exact ⟨h5l, h5d, _, [], HLS5.out.rebase, Nat.le_refl _, JnSt.start q⟩
  case round =>
    rintro pre ⟨⟨D, dn, dc, G, gn, gc⟩, ⟨t, Lx, u, X⟩⟩ W hsf ⟨T, hsame⟩ ⟨hL, hD, v, Y, hls, hyl, hjn⟩
    have hmem : ((⟨D, dn, dc, G, gn, gc⟩, ⟨t, Lx, u, X⟩) : RZ) ∈ (L.map Le.Z).flatten := hsame.mem (by simp)
    obtain ⟨le, hle, hlz⟩ := flat_mem hmem
    have HGX := Lib.hid (show Good w (⟨D, dn, dc, G, gn, gc⟩, ⟨t, Lx, u, X⟩) from (HIN.out.ok le hle).rows.good _ hlz)
    have HOK := Lib.hid (show OkR q ⟨t, Lx, u, X⟩ from HQ.out _ hmem)
    have HK := Lib.hid (show ∀ a ∈ pre.map Prod.snd, cmpV a ⟨t, Lx, u, X⟩ ≤ 0 from fun a ha => by
      obtain ⟨z, hz, rfl⟩ := List.mem_map.1 ha
      exact (List.pairwise_append.1 hsf).2.2 z hz _ (List.mem_singleton.2 rfl))
    have HSM := Lib.hid hsame
    have hpl : pre.length + 1 ≤ 1000000 := by
      have h1 := hsame.length
      have h2 := HT.out
      rw [List.length_append, List.length_append] at h1
      simp only [List.length_singleton] at h1
      omega
    simp only [encR_eq]
    obtain ⟨Wa, hWa⟩ : ∃ Wa, Wa = W.alloc (.cells #[.int .i64 t, .slice D dn dc, .int .i64 u, .slice G gn gc] 39) := ⟨_, rfl⟩
    obtain ⟨V, hV⟩ : ∃ V, Wa.putObj (ob + 2 + 1) (.loop (rec .busy none)) = V := ⟨_, rfl⟩
    have hga : W.grownBy Wa none := by rw [hWa]; exact World.grownBy_alloc W _ none
    have hla : Wa.heap[ob + 2 + 1]? = some (.loop (rec .ready none)) := by rw [hWa]; exact (Below.heap_alloc W _ _ (lt_of_heap hL)).trans hL
    have hda : Wa.heap[ob + 2]? = some (.deferred (some [])) := by rw [hWa]; exact (Below.heap_alloc W _ _ (lt_of_heap hD)).trans hD
    have HLA := Lib.hid hla
    have hra : Blk Wa W.heap.size 39 #[.int .i64 t, .slice D dn dc, .int .i64 u, .slice G gn gc] := by rw [hWa]; exact Blk.new W 39 _
    have hstv := (hls.none hga).loop hla (by omega) (.loop (rec .busy none))
    rw [hV] at hstv
    have HST := Lib.hid hstv
    have HLP := Lib.hid (show V.heap[ob + 2 + 1]? = some (.loop (rec .busy none)) by rw [← hV]; exact put_loop hla _)
    have HDF := Lib.hid (show V.heap[ob + 2]? = some (.deferred (some [])) by rw [← hV]; exact (World.putObj_heap_other (by omega)).trans hda)
    have HRV := Lib.hid (show Blk V W.heap.size 39 #[.int .i64 t, .slice D dn dc, .int .i64 u, .slice G gn gc] by rw [← hV]; exact (World.putObj_heap_other (Ne.symm (loop_not_blk hla hra))).trans hra)
    have HVR := Lib.hid (own_fresh hls.own)
    have HYL := Lib.hid hyl
    have HJN := Lib.hid hjn
    have HWa := Lib.hid hWa
    have HV := Lib.hid hV
    refine round_rec hrec hL rfl ?_
    clear hls hyl hjn hga hla hda hra hstv hWa hV hL hD hrec hmem hle hlz hsame hsf
    gi_wp2
    rw [← HWa.out]
    refine ⟨HLA.out, ?_⟩
    rw [HV.out]
    obtain ⟨rb, hrb⟩ : ∃ rb, rb = W.heap.size := ⟨_, rfl⟩
    rw [← hrb] at HVR HRV ⊢
    clear HWa HV HLA hrb Wa
    obtain ⟨hYn, vA, vc, rfl, hvr, hvc, hvm, hvn⟩ := own_sliceR HST.out.own
    have b0 := HST.out.b.cell 0
    simp at b0
    rcases List.eq_nil_or_concat Y with rfl | ⟨P, a, rfl⟩
    · simp only [List.length_nil] at b0 HST HVR ⊢
      gi_wp2
      refine region_rnd (S := fun _ => True) (by kernel_rfl) (by kernel_rfl) (fun _ _ h => h.elim) trivial ?_
      intro hHeld
      obtain ⟨Vd, hVd⟩ : ∃ Vd, Vd = V.drew := ⟨_, rfl⟩
      have hbd : Below V.heap.size V Vd := by rw [hVd]; exact below_drewN (Below.refl _ _) 1
      have HST := Lib.hid (HST.out.none (grown_none hbd))
      have HLP := Lib.hid ((hbd.block _ (lt_of_heap HLP.out)).trans HLP.out)
      have HDF := Lib.hid ((hbd.block _ (lt_of_heap HDF.out)).trans HDF.out)
      have HRV := Lib.hid (show Blk Vd rb 39 _ from (hbd.block _ HRV.out.lt).trans HRV.out)
      rw [← hVd]
      clear hVd hbd b0
      refine take_want (i := 0) (v := ?vq0) rfl (by kernel_rfl) (by kernel_rfl) (by kernel_rfl) (fun _ _ _ h => h) (by rfl) ?yq0 (by assumption) ?rq0
      case yq0 => (intro w hSw; go_simp; all_goals with_reducible rfl)
      (try simp only [Act.put, List.setIfInBounds_toArray, List.set_cons_zero, List.set_cons_succ])
      refine take_want (i := 1) (v := ?vq1) rfl (by kernel_rfl) (by kernel_rfl) (by kernel_rfl) (fun _ _ _ h => h) (by rfl) ?yq1 (by assumption) ?rq1
      case yq1 => (intro w hSw; go_simp; all_goals with_reducible rfl)
      (try simp only [Act.put, List.setIfInBounds_toArray, List.set_cons_zero, List.set_cons_succ])
      refine take_want (i := 2) (v := ?vq2) rfl (by kernel_rfl) (by kernel_rfl) (by kernel_rfl) (fun _ _ _ h => h) (by rfl) ?yq2 (by assumption) ?rq2
      case yq2 => (intro w hSw; go_simp; all_goals with_reducible rfl)
      (try simp only [Act.put, List.setIfInBounds_toArray, List.set_cons_zero, List.set_cons_succ])
      refine take_skip (i := 3) rfl (by kernel_rfl) (by kernel_rfl) (by kernel_rfl) (fun _ _ _ h => h) (by rfl) (by assumption) ?_
      (try simp only [Act.put, List.setIfInBounds_toArray, List.set_cons_zero, List.set_cons_succ])
      refine take_skip (i := 4) rfl (by kernel_rfl) (by kernel_rfl) (by kernel_rfl) (fun _ _ _ h => h) (by rfl) (by assumption) ?_
      (try simp only [Act.put, List.setIfInBounds_toArray, List.set_cons_zero, List.set_cons_succ])
      refine take_skip (i := 5) rfl (by kernel_rfl) (by kernel_rfl) (by kernel_rfl) (fun _ _ _ h => h) (by rfl) (by assumption) ?_
      (try simp only [Act.put, List.setIfInBounds_toArray, List.set_cons_zero, List.set_cons_succ])
      refine take_skip (i := 6) rfl (by kernel_rfl) (by kernel_rfl) (by kernel_rfl) (fun _ _ _ h => h) (by rfl) (by assumption) ?_
      (try simp only [Act.put, List.setIfInBounds_toArray, List.set_cons_zero, List.set_cons_succ])
      refine take_skip (i := 7) rfl (by kernel_rfl) (by kernel_rfl) (by kernel_rfl) (fun _ _ _ h => h) (by rfl) (by assumption) ?_
      (try simp only [Act.put, List.setIfInBounds_toArray, List.set_cons_zero, List.set_cons_succ])
      refine take_skip (i := 8) rfl (by kernel_rfl) (by kernel_rfl) (by kernel_rfl) (fun _ _ _ h => h) (by rfl) (by assumption) ?_
      (try simp only [Act.put, List.setIfInBounds_toArray, List.set_cons_zero, List.set_cons_succ])
      refine take_skip (i := 9) rfl (by kernel_rfl) (by kernel_rfl) (by kernel_rfl) (fun _ _ _ h => h) (by rfl) (by assumption) ?_
      (try simp only [Act.put, List.setIfInBounds_toArray, List.set_cons_zero, List.set_cons_succ])
      refine take_want (i := 10) (v := ?vq10) rfl (by kernel_rfl) (by kernel_rfl) (by kernel_rfl) (fun _ _ _ h => h) (by rfl) ?yq10 (by assumption) ?rq10
      case yq10 => (intro w hSw; go_simp; all_goals with_reducible rfl)
      (try simp only [Act.put, List.setIfInBounds_toArray, List.set_cons_zero, List.set_cons_succ])
      refine wpAnyH_done (by kernel_rfl) ?_ _
      obtain ⟨r0, r1, r2, r3⟩ := blk4 HRV.out
      obtain ⟨vv, hvv⟩ : ∃ vv, vv = Value.slice vA 0 vc := ⟨_, rfl⟩
      rw [← hvv] at HST ⊢
      clear hvv
      have b0 := HST.out.b.cell 0
      simp at b0
      have hwv : w.heap.size ≤ Vd.heap.size := HST.out.bel.size
      have hYb : ([] : List RZ).length ≤ 1000000 := by have := HYL.out; omega
      gi_wp2_with (gi_at_builtin; refine wpListIn_append_own _ rfl _ _ 28 rfl w.heap.size 39 i0 (.agg #[.int .i64 0, .slice none 0 0, .int .i64 0, .slice none 0 0]) 4 64 Try.underlying28 hi0 hz0 hz1 hz2 rfl (by decide) vv ([] : List RZ).length (cellsR []) rfl (HST.out.own.alloc _) ⟨Vd.heap.size, 0, none⟩ 1 1 [.int .i64 t, .slice D dn dc, .int .i64 u, .slice G gn gc] rfl rfl (Row.made rfl rfl).at' (by intro u hu; simp at hu; rcases hu with rfl | rfl | rfl | rfl <;> rfl) (by unfold maxLen; omega) (by omega) (by simp; omega) ?_)
      intro v5 w5 ho5 hg5 _
      have ho6 : w5.ownsRow w.heap.size 39 4 v5 (([] : List RZ).length + 1) (cellsR ([] ++ [(⟨D, dn, dc, G, gn, gc⟩, ⟨t, Lx, u, X⟩)])) := by rw [cellsR_app]; exact ho5
      obtain ⟨A5, c5, rfl⟩ := own_is ho6
      have hga := World.grownBy_alloc Vd (.cells #[.int .i64 t, .slice D dn dc, .int .i64 u, .slice G gn gc] 39) none
      have hfa := HST.out.none hga
      have hla := (hga.block _ (lt_of_heap HLP.out) (by simp)).trans HLP.out
      have hda := (hga.block _ (lt_of_heap HDF.out) (by simp)).trans HDF.out
      have hbl : Blk w5 ob 28 #[_] := hfa.b.grown hg5 (hfa.own.not_blk hfa.b (by decide))
      have hlp5 : w5.heap[ob + 2 + 1]? = some (.loop (rec .busy none)) := (hg5.block _ (lt_of_heap hla) (Ne.symm (own_not_loop hfa.own hla))).trans hla
      have hdf5 : w5.heap[ob + 2]? = some (.deferred (some [])) := (hg5.block _ (lt_of_heap hda) (Ne.symm (own_not_def hfa.own hda))).trans hda
      have HLP5 := Lib.hid (show (w5.setCell ⟨ob, 0, none⟩ (.slice A5 (([] : List RZ).length + 1) c5)).heap[ob + 2 + 1]? = some (.loop (rec .busy none)) from (Below.heap_setCell w5 ⟨ob, 0, none⟩ _ _ (by simp; omega)).trans hlp5)
      have HDF5 := Lib.hid (show (w5.setCell ⟨ob, 0, none⟩ (.slice A5 (([] : List RZ).length + 1) c5)).heap[ob + 2]? = some (.deferred (some [])) from (Below.heap_setCell w5 ⟨ob, 0, none⟩ _ _ (by simp)).trans hdf5)
      have HLS5 := Lib.hid (hfa.append hg5 (by first | exact ho6 | (rw [List.length_append, List.length_singleton]; exact ho6)) (.inl HGX.out))
      have b0 := hbl.cell 0
      have bf := hbl.frozen 0
      simp at b0
      clear ho5 hg5 ho6 hga hfa hla hda hbl hlp5 hdf5 r0 r1 r2 r3
      gi_wp2
      have hfin := HLS5.out.loop HLP5.out (by omega) (.loop (rec .ready none))
      refine ⟨HLP5.out, .inl ⟨rfl, ⟨put_loop HLP5.out _, (World.putObj_heap_other (by omega)).trans HDF5.out, _, _, hfin.rebase, ?_, ?_⟩, hfin.kt⟩⟩
      · have := HYL.out; simp only [List.length_append, List.length_singleton, List.length_nil] at this ⊢; omega
      · rw [List.map_append, List.map_append]
        exact HJN.out.put HK.out HOK.out (fun a P e => absurd (congrArg List.length e) (by simp))
    · obtain ⟨⟨D1, n1, c1, G1, gn1, gc1⟩, ⟨t1, L1, u1, X1⟩⟩ := a
      rw [List.concat_eq_append] at *
      obtain ⟨g, rfl⟩ : ∃ g, vA = some ⟨g, 0, none⟩ := by
        rcases HST.out.own.2 with ⟨e, h0⟩ | ⟨g, cap, cur, e, _⟩
        · simp at h0
        · cases e; exact ⟨g, rfl⟩
      obtain ⟨p0, p1, p2, p3⟩ := last_cells hvr
      rw [List.length_append, List.length_singleton] at b0
      have HYS := Lib.hid (HST.out.ys (⟨D1, n1, c1, G1, gn1, gc1⟩, ⟨t1, L1, u1, X1⟩) (by simp))
      obtain ⟨m, hm⟩ : ∃ m, m = P.length := ⟨_, rfl⟩
      rw [← hm] at p0 p1 p2 p3 b0
      have HM := Lib.hid hm
      have hml : m + 1 ≤ 1000000 := by have := HYL.out; simp at this; omega
      have hm0 : (0 : Int) ≤ (m : Int) := by omega
      have hmn : ¬ ((m : Int) < 0) := by omega
      have hm1 : (m : Int) < ((m + 1 : Nat) : Int) := by omega
      have hm3 : (m : Int) < (m : Int) + 1 := by omega
      have hd : decide ((m : Int) < 0) = false := by simp
      have hvc1 : m + 1 ≤ vc := by simp at hvc; omega
      have hsl : Sl ob rb (.slice (some ⟨g, 0, none⟩) (m + 1) vc) (.int .i64 t) (.slice D dn dc) (.int .i64 u) (.slice G gn gc) g (m * 4) (.int .i64 t1) (.slice D1 n1 c1) (.int .i64 u1) (.slice G1 gn1 gc1) V :=
        ⟨by have h := HST.out.b; rw [List.length_append, List.length_singleton, ← hm] at h; exact h, HRV.out, p0, p1, p2, p3⟩
      have HST := Lib.hid (show Ls w W ob (.slice (some ⟨g, 0, none⟩) (m + 1) vc) (P ++ [(⟨D1, n1, c1, G1, gn1, gc1⟩, ⟨t1, L1, u1, X1⟩)]) V by have h := HST.out; rw [List.length_append, List.length_singleton, ← hm] at h; exact h)
      have HSL := Lib.hid hsl
      clear hvr p0 p1 p2 p3 hm hvc hYn hsl
      gi_wp2
      clear b0
      obtain ⟨x, hx⟩ : ∃ x, x = cmpK t1 t L1 Lx := ⟨_, rfl⟩
      have HX := Lib.hid (show x = cmpV ⟨t1, L1, u1, X1⟩ ⟨t, Lx, u, X⟩ from hx)
      refine region_rnd (S := Sl ob rb (.slice (some ⟨g, 0, none⟩) (m + 1) vc) (.int .i64 t) (.slice D dn dc) (.int .i64 u) (.slice G gn gc) g (m * 4) (.int .i64 t1) (.slice D1 n1 c1) (.int .i64 u1) (.slice G1 gn1 gc1)) (by kernel_rfl) (by kernel_rfl) (fun _ _ h => h.elim) (HSL.out.keep (below_drewN (Below.refl _ _) 1)) ?_
      intro hHeld
      obtain ⟨Vd, hVd⟩ : ∃ Vd, Vd = V.drew := ⟨_, rfl⟩
      have hbd : Below V.heap.size V Vd := by rw [hVd]; exact below_drewN (Below.refl _ _) 1
      rw [← hVd] at hHeld ⊢
      have HST := Lib.hid (HST.out.none (grown_none hbd))
      have HLP := Lib.hid ((hbd.block _ (lt_of_heap HLP.out)).trans HLP.out)
      have HDF := Lib.hid ((hbd.block _ (lt_of_heap HDF.out)).trans HDF.out)
      have HRV := Lib.hid (show Blk Vd rb 39 _ from (hbd.block _ HRV.out.lt).trans HRV.out)
      clear hVd hbd HSL
      have HCP := Lib.hid (show Calls Try.prog 18 #[.agg #[.int .i64 t1, .slice D1 n1 c1, .int .i64 u1, .slice G1 gn1 gc1], .agg #[.int .i64 t, .slice D dn dc, .int .i64 u, .slice G gn gc]] Vd fun e w' => e = .returned (.int .i64 x) ∧ Below Vd.heap.size Vd w' from by
        rw [hx]
        have g1 : Good Vd (⟨D1, n1, c1, G1, gn1, gc1⟩, ⟨t1, L1, u1, X1⟩) := (HST.out.ys (⟨D1, n1, c1, G1, gn1, gc1⟩, ⟨t1, L1, u1, X1⟩) (by simp)).elim (fun h => h.keep HST.out.bel) (fun h => h.good)
        have g2 : Good Vd (⟨D, dn, dc, G, gn, gc⟩, ⟨t, Lx, u, X⟩) := HGX.out.keep HST.out.bel
        have k1 := g1.sd
        have k2 := g2.sd
        exact compare_any t1 t u1 u D1 D G1 G n1 c1 dn dc gn1 gc1 gn gc L1 Lx Vd g1.rd g2.rd g1.nd g2.nd (by simp at k1; omega) (by simp at k2; omega))
      clear hx
      refine take_want (i := 0) (v := ?va0) rfl (by kernel_rfl) (by kernel_rfl) (by kernel_rfl) (fun _ _ _ h => h) (by rfl) ?ya0 (by assumption) ?ra0
      case ya0 => (intro w hSw; obtain ⟨s0, s1, s2, s3, s4, s5⟩ := hSw; have q0 := s0.cell 0; obtain ⟨r0, r1, r2, r3⟩ := blk4 s1; simp at q0; go_simp; all_goals with_reducible rfl)
      (try simp only [Act.put, List.setIfInBounds_toArray, List.set_cons_zero, List.set_cons_succ])
      refine take_want (i := 1) (v := ?va1) rfl (by kernel_rfl) (by kernel_rfl) (by kernel_rfl) (fun _ _ _ h => h) (by rfl) ?ya1 (by assumption) ?ra1
      case ya1 => (intro w hSw; obtain ⟨s0, s1, s2, s3, s4, s5⟩ := hSw; have q0 := s0.cell 0; obtain ⟨r0, r1, r2, r3⟩ := blk4 s1; simp at q0; go_simp; all_goals with_reducible rfl)
      (try simp only [Act.put, List.setIfInBounds_toArray, List.set_cons_zero, List.set_cons_succ])
      refine take_want (i := 2) (v := ?va2) rfl (by kernel_rfl) (by kernel_rfl) (by kernel_rfl) (fun _ _ _ h => h) (by rfl) ?ya2 (by assumption) ?ra2
      case ya2 => (intro w hSw; obtain ⟨s0, s1, s2, s3, s4, s5⟩ := hSw; have q0 := s0.cell 0; obtain ⟨r0, r1, r2, r3⟩ := blk4 s1; simp at q0; go_simp; all_goals with_reducible rfl)
      (try simp only [Act.put, List.setIfInBounds_toArray, List.set_cons_zero, List.set_cons_succ])
      refine take_want (i := 3) (v := ?va3) rfl (by kernel_rfl) (by kernel_rfl) (by kernel_rfl) (fun _ _ _ h => h) (by rfl) ?ya3 (by assumption) ?ra3
      case ya3 => (intro w hSw; obtain ⟨s0, s1, s2, s3, s4, s5⟩ := hSw; have q0 := s0.cell 0; obtain ⟨r0, r1, r2, r3⟩ := blk4 s1; simp at q0; go_simp; all_goals with_reducible rfl)
      (try simp only [Act.put, List.setIfInBounds_toArray, List.set_cons_zero, List.set_cons_succ])
      refine take_want (i := 4) (v := ?va4) rfl (by kernel_rfl) (by kernel_rfl) (by kernel_rfl) (fun _ _ _ h => h) (by rfl) ?ya4 (by assumption) ?ra4
      case ya4 => (intro w hSw; obtain ⟨s0, s1, s2, s3, s4, s5⟩ := hSw; have q0 := s0.cell 0; obtain ⟨r0, r1, r2, r3⟩ := blk4 s1; simp at q0; go_simp; all_goals with_reducible rfl)
      (try simp only [Act.put, List.setIfInBounds_toArray, List.set_cons_zero, List.set_cons_succ])
      refine take_want (i := 5) (v := ?va5) rfl (by kernel_rfl) (by kernel_rfl) (by kernel_rfl) (fun _ _ _ h => h) (by rfl) ?ya5 (by assumption) ?ra5
      case ya5 => (intro w hSw; obtain ⟨s0, s1, s2, s3, s4, s5⟩ := hSw; have q0 := s0.cell 0; obtain ⟨r0, r1, r2, r3⟩ := blk4 s1; simp at q0; go_simp; all_goals with_reducible rfl)
      (try simp only [Act.put, List.setIfInBounds_toArray, List.set_cons_zero, List.set_cons_succ])
      refine take_want (i := 6) (v := ?va6) rfl (by kernel_rfl) (by kernel_rfl) (by kernel_rfl) (fun _ _ _ h => h) (by rfl) ?ya6 (by assumption) ?ra6
      case ya6 => (intro w hSw; obtain ⟨s0, s1, s2, s3, s4, s5⟩ := hSw; have q0 := s0.cell 0; obtain ⟨r0, r1, r2, r3⟩ := blk4 s1; simp at q0; go_simp; all_goals with_reducible rfl)
      (try simp only [Act.put, List.setIfInBounds_toArray, List.set_cons_zero, List.set_cons_succ])
      refine take_want (i := 7) (v := ?va7) rfl (by kernel_rfl) (by kernel_rfl) (by kernel_rfl) (fun _ _ _ h => h) (by rfl) ?ya7 (by assumption) ?ra7
      case ya7 => (intro w hSw; obtain ⟨s0, s1, s2, s3, s4, s5⟩ := hSw; have q0 := s0.cell 0; obtain ⟨r0, r1, r2, r3⟩ := blk4 s1; simp at q0; go_simp; all_goals with_reducible rfl)
      (try simp only [Act.put, List.setIfInBounds_toArray, List.set_cons_zero, List.set_cons_succ])
      refine wpAnyH_ready (rs := [8]) (by kernel_rfl) (by simp) ?_
      refine AllReadyH.cons rfl (fun K hK => ?_) AllReadyH.nil
      go_simp
      (go_at_call 18; refine HCP.out.mono ?_; rintro e V2 ⟨rfl, hb⟩)
      have HST := Lib.hid (HST.out.none (grown_none hb))
      have HLP := Lib.hid ((hb.block _ (lt_of_heap HLP.out)).trans HLP.out)
      have HDF := Lib.hid ((hb.block _ (lt_of_heap HDF.out)).trans HDF.out)
      have HRV := Lib.hid (show Blk V2 rb 39 _ from (hb.block _ HRV.out.lt).trans HRV.out)
      refine hK.out _ _ (hHeld.keep hb) (fun hHeld => ?_)
      clear hK K hb HCP
      (try simp only [Act.put, List.setIfInBounds_toArray, List.set_cons_zero, List.set_cons_succ])
      by_cases hx0 : x = 0
      · subst hx0
        refine take_want (i := 9) (v := ?vb9) rfl (by kernel_rfl) (by kernel_rfl) (by kernel_rfl) (fun _ _ _ h => h) (by rfl) ?yb9 (by assumption) ?rb9
        case yb9 => (intro w hSw; go_simp; all_goals with_reducible rfl)
        (try simp only [Act.put, List.setIfInBounds_toArray, List.set_cons_zero, List.set_cons_succ])
        refine take_want (i := 10) (v := ?vb10) rfl (by kernel_rfl) (by kernel_rfl) (by kernel_rfl) (fun _ _ _ h => h) (by rfl) ?yb10 (by assumption) ?rb10
        case yb10 => (intro w hSw; go_simp; all_goals with_reducible rfl)
        (try simp only [Act.put, List.setIfInBounds_toArray, List.set_cons_zero, List.set_cons_succ])
        refine wpAnyH_done (by kernel_rfl) ?_ _
        have HSL := Lib.hid hHeld
        clear hHeld
        gi_wp2
        refine region_rnd (S := Sl ob rb (.slice (some ⟨g, 0, none⟩) (m + 1) vc) (.int .i64 t) (.slice D dn dc) (.int .i64 u) (.slice G gn gc) g (m * 4) (.int .i64 t1) (.slice D1 n1 c1) (.int .i64 u1) (.slice G1 gn1 gc1)) (by kernel_rfl) (by kernel_rfl) (fun _ _ h => h.elim) (HSL.out.keep (below_drewN (Below.refl _ _) 1)) ?_
        intro hHeld
        obtain ⟨V3, hV3⟩ : ∃ V3, V3 = V2.drew := ⟨_, rfl⟩
        have hb : Below V2.heap.size V2 V3 := by rw [hV3]; exact below_drewN (Below.refl _ _) 1
        rw [← hV3] at hHeld ⊢
        have HST := Lib.hid (HST.out.none (grown_none hb))
        have HLP := Lib.hid ((hb.block _ (lt_of_heap HLP.out)).trans HLP.out)
        have HDF := Lib.hid ((hb.block _ (lt_of_heap HDF.out)).trans HDF.out)
        clear hV3 hb HSL
        obtain ⟨⟨rr, ex⟩, hrj⟩ : ∃ r, r = joinR ⟨t1, L1, u1, X1⟩ ⟨t, Lx, u, X⟩ := ⟨_, rfl⟩
        have HRJ := Lib.hid hrj
        have HJC := Lib.hid (show ∀ z, Below V3.heap.size V3 z → Calls Try.prog 19 #[.agg #[.int .i64 t1, .slice D1 n1 c1, .int .i64 u1, .slice G1 gn1 gc1], .agg #[.int .i64 t, .slice D dn dc, .int .i64 u, .slice G gn gc]] z (JoinPost z (rr, ex)) from fun z hz => by
          rw [hrj]
          have k1 := HJN.out.okO ⟨t1, L1, u1, X1⟩ (by simp)
          have k2 := HOK.out
          have g1 : Good V3 (⟨D1, n1, c1, G1, gn1, gc1⟩, ⟨t1, L1, u1, X1⟩) := (HST.out.ys (⟨D1, n1, c1, G1, gn1, gc1⟩, ⟨t1, L1, u1, X1⟩) (by simp)).elim (fun h => h.keep HST.out.bel) (fun h => h.good)
          have g2 : Good V3 (⟨D, dn, dc, G, gn, gc⟩, ⟨t, Lx, u, X⟩) := HGX.out.keep HST.out.bel
          exact join_any (⟨D1, n1, c1, G1, gn1, gc1⟩, ⟨t1, L1, u1, X1⟩) (⟨D, dn, dc, G, gn, gc⟩, ⟨t, Lx, u, X⟩) z (g1.keep hz) (g2.keep hz) ⟨k1.lo, k1.hi⟩ ⟨k2.lo, k2.hi⟩)
        clear hrj
        refine take_want (i := 0) (v := ?vd0) rfl (by kernel_rfl) (by kernel_rfl) (by kernel_rfl) (fun _ _ _ h => h) (by rfl) ?yd0 (by assumption) ?rd0
        case yd0 => (intro w hSw; obtain ⟨s0, s1, s2, s3, s4, s5⟩ := hSw; have q0 := s0.cell 0; obtain ⟨r0, r1, r2, r3⟩ := blk4 s1; simp at q0; go_simp; all_goals with_reducible rfl)
        (try simp only [Act.put, List.setIfInBounds_toArray, List.set_cons_zero, List.set_cons_succ])
        refine take_want (i := 1) (v := ?vd1) rfl (by kernel_rfl) (by kernel_rfl) (by kernel_rfl) (fun _ _ _ h => h) (by rfl) ?yd1 (by assumption) ?rd1
        case yd1 => (intro w hSw; obtain ⟨s0, s1, s2, s3, s4, s5⟩ := hSw; have q0 := s0.cell 0; obtain ⟨r0, r1, r2, r3⟩ := blk4 s1; simp at q0; go_simp; all_goals with_reducible rfl)
        (try simp only [Act.put, List.setIfInBounds_toArray, List.set_cons_zero, List.set_cons_succ])
        refine take_want (i := 2) (v := ?vd2) rfl (by kernel_rfl) (by kernel_rfl) (by kernel_rfl) (fun _ _ _ h => h) (by rfl) ?yd2 (by assumption) ?rd2
        case yd2 => (intro w hSw; obtain ⟨s0, s1, s2, s3, s4, s5⟩ := hSw; have q0 := s0.cell 0; obtain ⟨r0, r1, r2, r3⟩ := blk4 s1; simp at q0; go_simp; all_goals with_reducible rfl)
        (try simp only [Act.put, List.setIfInBounds_toArray, List.set_cons_zero, List.set_cons_succ])
        refine take_want (i := 3) (v := ?vd3) rfl (by kernel_rfl) (by kernel_rfl) (by kernel_rfl) (fun _ _ _ h => h) (by rfl) ?yd3 (by assumption) ?rd3
        case yd3 => (intro w hSw; obtain ⟨s0, s1, s2, s3, s4, s5⟩ := hSw; have q0 := s0.cell 0; obtain ⟨r0, r1, r2, r3⟩ := blk4 s1; simp at q0; go_simp; all_goals with_reducible rfl)
        (try simp only [Act.put, List.setIfInBounds_toArray, List.set_cons_zero, List.set_cons_succ])
        refine take_want (i := 4) (v := ?vd4) rfl (by kernel_rfl) (by kernel_rfl) (by kernel_rfl) (fun _ _ _ h => h) (by rfl) ?yd4 (by assumption) ?rd4
        case yd4 => (intro w hSw; obtain ⟨s0, s1, s2, s3, s4, s5⟩ := hSw; have q0 := s0.cell 0; obtain ⟨r0, r1, r2, r3⟩ := blk4 s1; simp at q0; go_simp; all_goals with_reducible rfl)
        (try simp only [Act.put, List.setIfInBounds_toArray, List.set_cons_zero, List.set_cons_succ])
        refine wpAnyH_ready (rs := [5, 9]) (by kernel_rfl) (by simp) ?_
        refine AllReadyH.cons rfl (fun K hK => ?_) (AllReadyH.cons rfl (fun K hK => ?_) AllReadyH.nil)
        · go_simp
          (go_at_call 19; refine (HJC.out _ (Below.refl _ _)).mono ?_; rintro e V4 ⟨⟨⟨D3, n3, c3, G3, gn3, gc3⟩, ⟨t3, L3, u3, X3⟩⟩, rfl, hz, how, hb⟩)
          have HZ := Lib.hid (show (⟨t3, L3, u3, X3⟩ : RV) = rr from hz)
          have HOW := Lib.hid (how.less (C := w.heap.size) HST.out.bel.size)
          have HST := Lib.hid (HST.out.none (grown_none hb))
          have HLP := Lib.hid ((hb.block _ (lt_of_heap HLP.out)).trans HLP.out)
          have HDF := Lib.hid ((hb.block _ (lt_of_heap HDF.out)).trans HDF.out)
          refine hK.out _ _ (hHeld.keep hb) (fun hHeld => ?_)
          clear hK K hz how hb
          (try simp only [Act.put, List.setIfInBounds_toArray, List.set_cons_zero, List.set_cons_succ])
          simp only [encR_eq]
          refine take_want (i := 6) (v := ?ve6) rfl (by kernel_rfl) (by kernel_rfl) (by kernel_rfl) (fun _ _ _ h => h) (by rfl) ?ye6 (by assumption) ?re6
          case ye6 => (intro w hSw; go_simp; all_goals with_reducible rfl)
          (try simp only [Act.put, List.setIfInBounds_toArray, List.set_cons_zero, List.set_cons_succ])
          refine take_want (i := 7) (v := ?ve7) rfl (by kernel_rfl) (by kernel_rfl) (by kernel_rfl) (fun _ _ _ h => h) (by rfl) ?ye7 (by assumption) ?re7
          case ye7 => (intro w hSw; go_simp; all_goals with_reducible rfl)
          (try simp only [Act.put, List.setIfInBounds_toArray, List.set_cons_zero, List.set_cons_succ])
          refine take_want (i := 8) (v := ?ve8) rfl (by kernel_rfl) (by kernel_rfl) (by kernel_rfl) (fun _ _ _ h => h) (by rfl) ?ye8 (by assumption) ?re8
          case ye8 => (intro w hSw; go_simp; all_goals with_reducible rfl)
          (try simp only [Act.put, List.setIfInBounds_toArray, List.set_cons_zero, List.set_cons_succ])
          refine wpAnyH_ready (rs := [9]) (by kernel_rfl) (by simp) ?_
          refine AllReadyH.cons rfl (fun K hK => ?_) AllReadyH.nil
          go_simp
          obtain ⟨V5, hV5⟩ : ∃ V5, V5 = V4.alloc (.cells #[.int .i64 0, .slice none 0 0, .int .i64 0, .slice none 0 0] 39) := ⟨_, rfl⟩
          obtain ⟨bx, hbx⟩ : ∃ bx, bx = V4.heap.size := ⟨_, rfl⟩
          have hb : Below V4.heap.size V4 V5 := by rw [hV5]; exact bpush (Below.refl _ _) _
          have HBX := Lib.hid (show Bx4 V5 bx (.int .i64 0) (.slice none 0 0) (.int .i64 0) (.slice none 0 0) by rw [hV5, hbx]; exact Bx4.made)
          have HBXB := Lib.hid (show Blk V5 bx 39 #[.int .i64 0, .slice none 0 0, .int .i64 0, .slice none 0 0] by rw [hV5, hbx]; exact Blk.new _ _ _)
          have HNE := Lib.hid (show ob < bx ∧ rb < bx ∧ g < bx ∧ ob + 2 + 1 < bx ∧ w.heap.size ≤ bx from ⟨by rw [hbx]; exact HST.out.b.lt, by rw [hbx]; exact hHeld.r.lt, by rw [hbx]; exact lt_of_cell hHeld.p0, by rw [hbx]; exact lt_of_heap HLP.out, by rw [hbx]; exact HST.out.bel.size⟩)
          have HOW := Lib.hid (HOW.out.keep hb)
          have HST := Lib.hid (HST.out.none (grown_none hb))
          have HLP := Lib.hid ((hb.block _ (lt_of_heap HLP.out)).trans HLP.out)
          have HDF := Lib.hid ((hb.block _ (lt_of_heap HDF.out)).trans HDF.out)
          rw [← hV5, ← hbx]
          refine hK.out _ _ (hHeld.keep hb) (fun hHeld => ?_)
          clear hK K hb hV5 hbx
          (try simp only [Act.put, List.setIfInBounds_toArray, List.set_cons_zero, List.set_cons_succ])
          obtain ⟨e0, e1, e2, e3, ef⟩ := HBX.out
          refine wpAnyH_ready (rs := [10]) (by kernel_rfl) (by simp) ?_
          refine AllReadyH.cons rfl (fun K hK => ?_) AllReadyH.nil
          go_simp
          obtain ⟨V6, hV6⟩ : ∃ V6, V6 = (((V5.setCell ⟨bx, 0, none⟩ (.int .i64 t3)).setCell ⟨bx, 1, none⟩ (.slice D3 n3 c3)).setCell ⟨bx, 2, none⟩ (.int .i64 u3)).setCell ⟨bx, 3, none⟩ (.slice G3 gn3 gc3) := ⟨_, rfl⟩
          obtain ⟨n1', n2', n3', n4', n5'⟩ := HNE.out
          have HBX6 := Lib.hid (show Bx4 V6 bx (.int .i64 t3) (.slice D3 n3 c3) (.int .i64 u3) (.slice G3 gn3 gc3) by rw [hV6]; exact HBX.out.all _ _ _ _)
          have hg6 : V5.grownBy V6 (some bx) := by rw [hV6]; exact grown_four _ _ _ _ _ _
          have hs6 : Ls w W ob (.slice (some ⟨g, 0, none⟩) (m + 1) vc) (P ++ [(⟨D1, n1, c1, G1, gn1, gc1⟩, ⟨t1, L1, u1, X1⟩)]) V6 := HST.out.blk HBXB.out hg6 n5' (Ne.symm (Nat.ne_of_lt n1')) (fun e => by have e2 : g = bx := Option.some.inj e; omega)
          have HST := Lib.hid hs6
          have HLP := Lib.hid (show V6.heap[ob + 2 + 1]? = some (.loop (rec .busy none)) from (hg6.block _ (lt_of_heap HLP.out) (fun e => by have := Option.some.inj e; omega)).trans HLP.out)
          have HDF := Lib.hid (show V6.heap[ob + 2]? = some (.deferred (some [])) from (hg6.block _ (lt_of_heap HDF.out) (fun e => by have := Option.some.inj e; omega)).trans HDF.out)
          have HOW := Lib.hid (show Owned w.heap.size V6 (⟨D3, n3, c3, G3, gn3, gc3⟩, ⟨t3, L3, u3, X3⟩) from HOW.out.grown hg6 (fun k e => by cases e; exact ⟨HOW.out.d.not_blk HBXB.out (by decide), HOW.out.g.not_blk HBXB.out (by decide)⟩))
          have hsl6 : Sl ob rb (.slice (some ⟨g, 0, none⟩) (m + 1) vc) (.int .i64 t) (.slice D dn dc) (.int .i64 u) (.slice G gn gc) g (m * 4) (.int .i64 t1) (.slice D1 n1 c1) (.int .i64 u1) (.slice G1 gn1 gc1) V6 := hHeld.grown hg6 (Nat.ne_of_lt n1') (Nat.ne_of_lt n2') (Nat.ne_of_lt n3')
          rw [← hV6]
          refine hK.out _ _ hsl6 (fun hHeld => ?_)
          clear hK K hs6 hsl6 hg6 hV6 e0 e1 e2 e3 ef n1' n2' n3' n4' n5' HBX HBXB HNE
          (try simp only [Act.put, List.setIfInBounds_toArray, List.set_cons_zero, List.set_cons_succ])
          refine take_want (i := 11) (v := ?vg11) rfl (by kernel_rfl) (by kernel_rfl) (by kernel_rfl) (fun _ _ _ h => h) (by rfl) ?yg11 (by assumption) ?rg11
          case yg11 => (intro w hSw; go_simp; all_goals with_reducible rfl)
          (try simp only [Act.put, List.setIfInBounds_toArray, List.set_cons_zero, List.set_cons_succ])
          refine wpAnyH_done (by kernel_rfl) ?_ _
          have HSL := Lib.hid hHeld
          clear hHeld
          obtain ⟨e0, e1, e2, e3, ef⟩ := HBX6.out
          by_cases hex : ex = 0
          · subst hex
            have HRR := Lib.hid (show joinR ⟨t1, L1, u1, X1⟩ ⟨t, Lx, u, X⟩ = (⟨t3, L3, u3, X3⟩, 0) by rw [← HRJ.out, HZ.out])
            obtain ⟨s0, s1, p0, p1, p2, p3⟩ := HSL.out
            have b0 := s0.cell 0
            simp at b0
            have hfz := fun j => World.ownsRow.frozenAt HST.out.own' j
            have f0 := hfz (m * 4)
            have f1 := hfz (m * 4 + 1)
            have f2 := hfz (m * 4 + 2)
            have f3 := hfz (m * 4 + 3)
            clear s0 s1 hfz
            gi_wp2
            have hfin0 : Ls w W ob (.slice (some ⟨g, 0, none⟩) (m + 1) vc) (P ++ [(⟨D3, n3, c3, G3, gn3, gc3⟩, ⟨t3, L3, u3, X3⟩)]) ((((V6.setCell ⟨g, m * 4, none⟩ (.int .i64 t3)).setCell ⟨g, m * 4 + 1, none⟩ (.slice D3 n3 c3)).setCell ⟨g, m * 4 + 2, none⟩ (.int .i64 u3)).setCell ⟨g, m * 4 + 3, none⟩ (.slice G3 gn3 gc3)) := by
              have h := HST.out.store HOW.out
              rw [← HM.out] at h
              exact h
            have hgl : ob + 2 + 1 ≠ g := fun e => own_not_loop HST.out.own HLP.out (by rw [e]; rfl)
            have hgd : ob + 2 ≠ g := fun e => own_not_def HST.out.own HDF.out (by rw [e]; rfl)
            obtain ⟨W7, hW7⟩ : ∃ W7, W7 = ((((V6.setCell ⟨g, m * 4, none⟩ (.int .i64 t3)).setCell ⟨g, m * 4 + 1, none⟩ (.slice D3 n3 c3)).setCell ⟨g, m * 4 + 2, none⟩ (.int .i64 u3)).setCell ⟨g, m * 4 + 3, none⟩ (.slice G3 gn3 gc3)) := ⟨_, rfl⟩
            rw [← hW7] at hfin0 ⊢
            have hl7 : W7.heap[ob + 2 + 1]? = some (.loop (rec .busy none)) := by
              rw [hW7]; exact (Below.heap_setCell _ _ _ _ hgl).trans ((Below.heap_setCell _ _ _ _ hgl).trans ((Below.heap_setCell _ _ _ _ hgl).trans ((Below.heap_setCell _ _ _ _ hgl).trans HLP.out)))
            have hd7 : W7.heap[ob + 2]? = some (.deferred (some [])) := by
              rw [hW7]; exact (Below.heap_setCell _ _ _ _ hgd).trans ((Below.heap_setCell _ _ _ _ hgd).trans ((Below.heap_setCell _ _ _ _ hgd).trans ((Below.heap_setCell _ _ _ _ hgd).trans HDF.out)))
            have hfin := hfin0.loop hl7 (by omega) (.loop (rec .ready none))
            refine ⟨hl7, .inl ⟨rfl, ⟨put_loop hl7 _, (World.putObj_heap_other (by omega)).trans hd7, _, _, hfin.rebase, ?_, ?_⟩, hfin.kt⟩⟩
            · have := HYL.out; simp only [List.length_append, List.length_singleton, List.length_nil] at this ⊢; omega
            · rw [List.map_append, List.map_append]
              exact JnSt.join (by have h := HJN.out; rw [List.map_append] at h; exact h) HK.out HOK.out HX.out.symm HRR.out
          · have z1 : (ex != 0) = true := by rw [bne_iff_ne]; exact hex
            have b2 := HST.out.r2.cell 0
            have f2 := HST.out.r2.frozen 0
            have b3 := HST.out.r3.cell 0
            have f3 := HST.out.r3.frozen 0
            simp at b2 b3
            have hlt := HST.out.lt
            gi_wp2
            obtain ⟨we, hwe⟩ : ∃ we, we = (V6.setCell ⟨w.heap.size, 0, none⟩ (.slice none 0 0)).setCell ⟨w.heap.size + 1, 0, none⟩ (.int .i64 ex) := ⟨_, rfl⟩
            have q2 : Blk we w.heap.size 28 #[.slice none 0 0] := by rw [hwe]; have h := (HST.out.r2.set_ 0 (.slice none 0 0)).far (p := ⟨w.heap.size + 1, 0, none⟩) (by simp) (.int .i64 ex); simpa using h
            have q3 : Blk we (w.heap.size + 1) 29 #[.int .i64 ex] := by rw [hwe]; have h := (HST.out.r3.far (p := ⟨w.heap.size, 0, none⟩) (by simp) (.slice none 0 0)).set_ 0 (.int .i64 ex); simpa using h
            have qL : we.heap[ob + 2 + 1]? = some (.loop (rec .busy none)) := by rw [hwe]; exact (Below.heap_setCell _ _ _ _ (by simp; omega)).trans ((Below.heap_setCell _ _ _ _ (by simp; omega)).trans HLP.out)
            have qD : we.heap[ob + 2]? = some (.deferred (some [])) := by rw [hwe]; exact (Below.heap_setCell _ _ _ _ (by simp; omega)).trans ((Below.heap_setCell _ _ _ _ (by simp; omega)).trans HDF.out)
            have qB : Below w.heap.size w we := by rw [hwe]; exact bset (bset HST.out.bel (Nat.le_refl _) _) (by omega) _
            rw [← hwe]
            refine ⟨qL, .inr ⟨rfl, put_loop qL _, (World.putObj_heap_other (by omega)).trans qD, ex, (World.putObj_heap_other (by omega)).trans q2, (World.putObj_heap_other (by omega)).trans q3, qB.grown (grownBy_putObj' we (ob + 2 + 1) _) qB.size (fun k e => by cases e; omega), ?_⟩⟩
            refine refF_same (q := q) HQ.out HSM.out hex ?_
            rw [List.map_append]
            exact JnSt.fails (by have h := HJN.out; rw [List.map_append] at h; exact h) HK.out HX.out.symm hex HRJ.out.symm
        · go_simp
          obtain ⟨V5, hV5⟩ : ∃ V5, V5 = V3.alloc (.cells #[.int .i64 0, .slice none 0 0, .int .i64 0, .slice none 0 0] 39) := ⟨_, rfl⟩
          obtain ⟨bx, hbx⟩ : ∃ bx, bx = V3.heap.size := ⟨_, rfl⟩
          have hb : Below V3.heap.size V3 V5 := by rw [hV5]; exact bpush (Below.refl _ _) _
          have HBX := Lib.hid (show Bx4 V5 bx (.int .i64 0) (.slice none 0 0) (.int .i64 0) (.slice none 0 0) by rw [hV5, hbx]; exact Bx4.made)
          have HBXB := Lib.hid (show Blk V5 bx 39 #[.int .i64 0, .slice none 0 0, .int .i64 0, .slice none 0 0] by rw [hV5, hbx]; exact Blk.new _ _ _)
          have HNE := Lib.hid (show ob < bx ∧ rb < bx ∧ g < bx ∧ ob + 2 + 1 < bx ∧ w.heap.size ≤ bx from ⟨by rw [hbx]; exact HST.out.b.lt, by rw [hbx]; exact hHeld.r.lt, by rw [hbx]; exact lt_of_cell hHeld.p0, by rw [hbx]; exact lt_of_heap HLP.out, by rw [hbx]; exact HST.out.bel.size⟩)
          have HBB := Lib.hid hb
          have HST := Lib.hid (HST.out.none (grown_none hb))
          have HLP := Lib.hid ((hb.block _ (lt_of_heap HLP.out)).trans HLP.out)
          have HDF := Lib.hid ((hb.block _ (lt_of_heap HDF.out)).trans HDF.out)
          rw [← hV5, ← hbx]
          refine hK.out _ _ (hHeld.keep hb) (fun hHeld => ?_)
          clear hK K hb hV5 hbx
          (try simp only [Act.put, List.setIfInBounds_toArray, List.set_cons_zero, List.set_cons_succ])
          refine wpAnyH_ready (rs := [5]) (by kernel_rfl) (by simp) ?_
          refine AllReadyH.cons rfl (fun K hK => ?_) AllReadyH.nil
          go_simp
          (go_at_call 19; refine (HJC.out _ HBB.out).mono ?_; rintro e V4 ⟨⟨⟨D3, n3, c3, G3, gn3, gc3⟩, ⟨t3, L3, u3, X3⟩⟩, rfl, hz, how, hb⟩)
          have HZ := Lib.hid (show (⟨t3, L3, u3, X3⟩ : RV) = rr from hz)
          have HOW := Lib.hid (how.less (C := w.heap.size) HST.out.bel.size)
          have HST := Lib.hid (HST.out.none (grown_none hb))
          have HLP := Lib.hid ((hb.block _ (lt_of_heap HLP.out)).trans HLP.out)
          have HDF := Lib.hid ((hb.block _ (lt_of_heap HDF.out)).trans HDF.out)
          have HBX := Lib.hid (HBX.out.keep hb)
          have HBXB := Lib.hid (show Blk V4 bx 39 _ from (hb.block _ HBXB.out.lt).trans HBXB.out)
          refine hK.out _ _ (hHeld.keep hb) (fun hHeld => ?_)
          clear hK K hz how hb
          (try simp only [Act.put, List.setIfInBounds_toArray, List.set_cons_zero, List.set_cons_succ])
          simp only [encR_eq]
          refine take_want (i := 6) (v := ?vf6) rfl (by kernel_rfl) (by kernel_rfl) (by kernel_rfl) (fun _ _ _ h => h) (by rfl) ?yf6 (by assumption) ?rf6
          case yf6 => (intro w hSw; go_simp; all_goals with_reducible rfl)
          (try simp only [Act.put, List.setIfInBounds_toArray, List.set_cons_zero, List.set_cons_succ])
          refine take_want (i := 7) (v := ?vf7) rfl (by kernel_rfl) (by kernel_rfl) (by kernel_rfl) (fun _ _ _ h => h) (by rfl) ?yf7 (by assumption) ?rf7
          case yf7 => (intro w hSw; go_simp; all_goals with_reducible rfl)
          (try simp only [Act.put, List.setIfInBounds_toArray, List.set_cons_zero, List.set_cons_succ])
          refine take_want (i := 8) (v := ?vf8) rfl (by kernel_rfl) (by kernel_rfl) (by kernel_rfl) (fun _ _ _ h => h) (by rfl) ?yf8 (by assumption) ?rf8
          case yf8 => (intro w hSw; go_simp; all_goals with_reducible rfl)
          (try simp only [Act.put, List.setIfInBounds_toArray, List.set_cons_zero, List.set_cons_succ])
          obtain ⟨e0, e1, e2, e3, ef⟩ := HBX.out
          refine wpAnyH_ready (rs := [10]) (by kernel_rfl) (by simp) ?_
          refine AllReadyH.cons rfl (fun K hK => ?_) AllReadyH.nil
          go_simp
          obtain ⟨V6, hV6⟩ : ∃ V6, V6 = (((V4.setCell ⟨bx, 0, none⟩ (.int .i64 t3)).setCell ⟨bx, 1, none⟩ (.slice D3 n3 c3)).setCell ⟨bx, 2, none⟩ (.int .i64 u3)).setCell ⟨bx, 3, none⟩ (.slice G3 gn3 gc3) := ⟨_, rfl⟩
          obtain ⟨n1', n2', n3', n4', n5'⟩ := HNE.out
          have HBX6 := Lib.hid (show Bx4 V6 bx (.int .i64 t3) (.slice D3 n3 c3) (.int .i64 u3) (.slice G3 gn3 gc3) by rw [hV6]; exact HBX.out.all _ _ _ _)
          have hg6 : V4.grownBy V6 (some bx) := by rw [hV6]; exact grown_four _ _ _ _ _ _
          have hs6 : Ls w W ob (.slice (some ⟨g, 0, none⟩) (m + 1) vc) (P ++ [(⟨D1, n1, c1, G1, gn1, gc1⟩, ⟨t1, L1, u1, X1⟩)]) V6 := HST.out.blk HBXB.out hg6 n5' (Ne.symm (Nat.ne_of_lt n1')) (fun e => by have e2 : g = bx := Option.some.inj e; omega)
          have HST := Lib.hid hs6
          have HLP := Lib.hid (show V6.heap[ob + 2 + 1]? = some (.loop (rec .busy none)) from (hg6.block _ (lt_of_heap HLP.out) (fun e => by have := Option.some.inj e; omega)).trans HLP.out)
          have HDF := Lib.hid (show V6.heap[ob + 2]? = some (.deferred (some [])) from (hg6.block _ (lt_of_heap HDF.out) (fun e => by have := Option.some.inj e; omega)).trans HDF.out)
          have HOW := Lib.hid (show Owned w.heap.size V6 (⟨D3, n3, c3, G3, gn3, gc3⟩, ⟨t3, L3, u3, X3⟩) from HOW.out.grown hg6 (fun k e => by cases e; exact ⟨HOW.out.d.not_blk HBXB.out (by decide), HOW.out.g.not_blk HBXB.out (by decide)⟩))
          have hsl6 : Sl ob rb (.slice (some ⟨g, 0, none⟩) (m + 1) vc) (.int .i64 t) (.slice D dn dc) (.int .i64 u) (.slice G gn gc) g (m * 4) (.int .i64 t1) (.slice D1 n1 c1) (.int .i64 u1) (.slice G1 gn1 gc1) V6 := hHeld.grown hg6 (Nat.ne_of_lt n1') (Nat.ne_of_lt n2') (Nat.ne_of_lt n3')
          rw [← hV6]
          refine hK.out _ _ hsl6 (fun hHeld => ?_)
          clear hK K hs6 hsl6 hg6 hV6 e0 e1 e2 e3 ef n1' n2' n3' n4' n5' HBX HBXB HNE
          (try simp only [Act.put, List.setIfInBounds_toArray, List.set_cons_zero, List.set_cons_succ])
          refine take_want (i := 11) (v := ?vh11) rfl (by kernel_rfl) (by kernel_rfl) (by kernel_rfl) (fun _ _ _ h => h) (by rfl) ?yh11 (by assumption) ?rh11
          case yh11 => (intro w hSw; go_simp; all_goals with_reducible rfl)
          (try simp only [Act.put, List.setIfInBounds_toArray, List.set_cons_zero, List.set_cons_succ])
          refine wpAnyH_done (by kernel_rfl) ?_ _
          have HSL := Lib.hid hHeld
          clear hHeld
          obtain ⟨e0, e1, e2, e3, ef⟩ := HBX6.out
          by_cases hex : ex = 0
          · subst hex
            have HRR := Lib.hid (show joinR ⟨t1, L1, u1, X1⟩ ⟨t, Lx, u, X⟩ = (⟨t3, L3, u3, X3⟩, 0) by rw [← HRJ.out, HZ.out])
            obtain ⟨s0, s1, p0, p1, p2, p3⟩ := HSL.out
            have b0 := s0.cell 0
            simp at b0
            have hfz := fun j => World.ownsRow.frozenAt HST.out.own' j
            have f0 := hfz (m * 4)
            have f1 := hfz (m * 4 + 1)
            have f2 := hfz (m * 4 + 2)
            have f3 := hfz (m * 4 + 3)
            clear s0 s1 hfz
            gi_wp2
            have hfin0 : Ls w W ob (.slice (some ⟨g, 0, none⟩) (m + 1) vc) (P ++ [(⟨D3, n3, c3, G3, gn3, gc3⟩, ⟨t3, L3, u3, X3⟩)]) ((((V6.setCell ⟨g, m * 4, none⟩ (.int .i64 t3)).setCell ⟨g, m * 4 + 1, none⟩ (.slice D3 n3 c3)).setCell ⟨g, m * 4 + 2, none⟩ (.int .i64 u3)).setCell ⟨g, m * 4 + 3, none⟩ (.slice G3 gn3 gc3)) := by
              have h := HST.out.store HOW.out
              rw [← HM.out] at h
              exact h
            have hgl : ob + 2 + 1 ≠ g := fun e => own_not_loop HST.out.own HLP.out (by rw [e]; rfl)
            have hgd : ob + 2 ≠ g := fun e => own_not_def HST.out.own HDF.out (by rw [e]; rfl)
            obtain ⟨W7, hW7⟩ : ∃ W7, W7 = ((((V6.setCell ⟨g, m * 4, none⟩ (.int .i64 t3)).setCell ⟨g, m * 4 + 1, none⟩ (.slice D3 n3 c3)).setCell ⟨g, m * 4 + 2, none⟩ (.int .i64 u3)).setCell ⟨g, m * 4 + 3, none⟩ (.slice G3 gn3 gc3)) := ⟨_, rfl⟩
            rw [← hW7] at hfin0 ⊢
            have hl7 : W7.heap[ob + 2 + 1]? = some (.loop (rec .busy none)) := by
              rw [hW7]; exact (Below.heap_setCell _ _ _ _ hgl).trans ((Below.heap_setCell _ _ _ _ hgl).trans ((Below.heap_setCell _ _ _ _ hgl).trans ((Below.heap_setCell _ _ _ _ hgl).trans HLP.out)))
            have hd7 : W7.heap[ob + 2]? = some (.deferred (some [])) := by
              rw [hW7]; exact (Below.heap_setCell _ _ _ _ hgd).trans ((Below.heap_setCell _ _ _ _ hgd).trans ((Below.heap_setCell _ _ _ _ hgd).trans ((Below.heap_setCell _ _ _ _ hgd).trans HDF.out)))
            have hfin := hfin0.loop hl7 (by omega) (.loop (rec .ready none))
            refine ⟨hl7, .inl ⟨rfl, ⟨put_loop hl7 _, (World.putObj_heap_other (by omega)).trans hd7, _, _, hfin.rebase, ?_, ?_⟩, hfin.kt⟩⟩
            · have := HYL.out; simp only [List.length_append, List.length_singleton, List.length_nil] at this ⊢; omega
            · rw [List.map_append, List.map_append]
              exact JnSt.join (by have h := HJN.out; rw [List.map_append] at h; exact h) HK.out HOK.out HX.out.symm HRR.out
          · have z1 : (ex != 0) = true := by rw [bne_iff_ne]; exact hex
            have b2 := HST.out.r2.cell 0
            have f2 := HST.out.r2.frozen 0
            have b3 := HST.out.r3.cell 0
            have f3 := HST.out.r3.frozen 0
            simp at b2 b3
            have hlt := HST.out.lt
            gi_wp2
            obtain ⟨we, hwe⟩ : ∃ we, we = (V6.setCell ⟨w.heap.size, 0, none⟩ (.slice none 0 0)).setCell ⟨w.heap.size + 1, 0, none⟩ (.int .i64 ex) := ⟨_, rfl⟩
            have q2 : Blk we w.heap.size 28 #[.slice none 0 0] := by rw [hwe]; have h := (HST.out.r2.set_ 0 (.slice none 0 0)).far (p := ⟨w.heap.size + 1, 0, none⟩) (by simp) (.int .i64 ex); simpa using h
            have q3 : Blk we (w.heap.size + 1) 29 #[.int .i64 ex] := by rw [hwe]; have h := (HST.out.r3.far (p := ⟨w.heap.size, 0, none⟩) (by simp) (.slice none 0 0)).set_ 0 (.int .i64 ex); simpa using h
            have qL : we.heap[ob + 2 + 1]? = some (.loop (rec .busy none)) := by rw [hwe]; exact (Below.heap_setCell _ _ _ _ (by simp; omega)).trans ((Below.heap_setCell _ _ _ _ (by simp; omega)).trans HLP.out)
            have qD : we.heap[ob + 2]? = some (.deferred (some [])) := by rw [hwe]; exact (Below.heap_setCell _ _ _ _ (by simp; omega)).trans ((Below.heap_setCell _ _ _ _ (by simp; omega)).trans HDF.out)
            have qB : Below w.heap.size w we := by rw [hwe]; exact bset (bset HST.out.bel (Nat.le_refl _) _) (by omega) _
            rw [← hwe]
            refine ⟨qL, .inr ⟨rfl, put_loop qL _, (World.putObj_heap_other (by omega)).trans qD, ex, (World.putObj_heap_other (by omega)).trans q2, (World.putObj_heap_other (by omega)).trans q3, qB.grown (grownBy_putObj' we (ob + 2 + 1) _) qB.size (fun k e => by cases e; omega), ?_⟩⟩
            refine refF_same (q := q) HQ.out HSM.out hex ?_
            rw [List.map_append]
            exact JnSt.fails (by have h := HJN.out; rw [List.map_append] at h; exact h) HK.out HX.out.symm hex HRJ.out.symm
      · have z1 : (x != 0) = true := by rw [bne_iff_ne]; exact hx0
        refine take_want (i := 9) (v := ?vc9) rfl (by kernel_rfl) (by kernel_rfl) (by kernel_rfl) (fun _ _ _ h => h) (by rfl) ?yc9 (by assumption) ?rc9
        case yc9 => (intro w hSw; go_simp; all_goals with_reducible rfl)
        (try simp only [Act.put, List.setIfInBounds_toArray, List.set_cons_zero, List.set_cons_succ])
        refine take_want (i := 10) (v := ?vc10) rfl (by kernel_rfl) (by kernel_rfl) (by kernel_rfl) (fun _ _ _ h => h) (by rfl) ?yc10 (by assumption) ?rc10
        case yc10 => (intro w hSw; go_simp; all_goals with_reducible rfl)
        (try simp only [Act.put, List.setIfInBounds_toArray, List.set_cons_zero, List.set_cons_succ])
        refine wpAnyH_done (by kernel_rfl) ?_ _
        clear hHeld
        obtain ⟨r0, r1, r2, r3⟩ := blk4 HRV.out
        obtain ⟨vv, hvv⟩ : ∃ vv, vv = Value.slice (some ⟨g, 0, none⟩) (m + 1) vc := ⟨_, rfl⟩
        rw [← hvv] at HST ⊢
        clear hvv
        have b0 := HST.out.b.cell 0
        simp at b0
        have hwv : w.heap.size ≤ V2.heap.size := HST.out.bel.size
        have hYb : ((P ++ [(⟨D1, n1, c1, G1, gn1, gc1⟩, ⟨t1, L1, u1, X1⟩)]) : List RZ).length ≤ 1000000 := by have := HYL.out; omega
        gi_wp2_with (gi_at_builtin; refine wpListIn_append_own _ rfl _ _ 28 rfl w.heap.size 39 i0 (.agg #[.int .i64 0, .slice none 0 0, .int .i64 0, .slice none 0 0]) 4 64 Try.underlying28 hi0 hz0 hz1 hz2 rfl (by decide) vv ((P ++ [(⟨D1, n1, c1, G1, gn1, gc1⟩, ⟨t1, L1, u1, X1⟩)]) : List RZ).length (cellsR (P ++ [(⟨D1, n1, c1, G1, gn1, gc1⟩, ⟨t1, L1, u1, X1⟩)])) rfl (HST.out.own.alloc _) ⟨V2.heap.size, 0, none⟩ 1 1 [.int .i64 t, .slice D dn dc, .int .i64 u, .slice G gn gc] rfl rfl (Row.made rfl rfl).at' (by intro u hu; simp at hu; rcases hu with rfl | rfl | rfl | rfl <;> rfl) (by unfold maxLen; omega) (by omega) (by simp; omega) ?_)
        intro v5 w5 ho5 hg5 _
        have ho6 : w5.ownsRow w.heap.size 39 4 v5 ((P.length + 1) + 1) (cellsR ((P ++ [(⟨D1, n1, c1, G1, gn1, gc1⟩, ⟨t1, L1, u1, X1⟩)]) ++ [(⟨D, dn, dc, G, gn, gc⟩, ⟨t, Lx, u, X⟩)])) := by rw [cellsR_app]; exact ho5
        obtain ⟨A5, c5, rfl⟩ := own_is ho6
        have hga := World.grownBy_alloc V2 (.cells #[.int .i64 t, .slice D dn dc, .int .i64 u, .slice G gn gc] 39) none
        have hfa := HST.out.none hga
        have hla := (hga.block _ (lt_of_heap HLP.out) (by simp)).trans HLP.out
        have hda := (hga.block _ (lt_of_heap HDF.out) (by simp)).trans HDF.out
        have hbl : Blk w5 ob 28 #[_] := hfa.b.grown hg5 (hfa.own.not_blk hfa.b (by decide))
        have hlp5 : w5.heap[ob + 2 + 1]? = some (.loop (rec .busy none)) := (hg5.block _ (lt_of_heap hla) (Ne.symm (own_not_loop hfa.own hla))).trans hla
        have hdf5 : w5.heap[ob + 2]? = some (.deferred (some [])) := (hg5.block _ (lt_of_heap hda) (Ne.symm (own_not_def hfa.own hda))).trans hda
        have HLP5 := Lib.hid (show (w5.setCell ⟨ob, 0, none⟩ (.slice A5 ((P.length + 1) + 1) c5)).heap[ob + 2 + 1]? = some (.loop (rec .busy none)) from (Below.heap_setCell w5 ⟨ob, 0, none⟩ _ _ (by simp; omega)).trans hlp5)
        have HDF5 := Lib.hid (show (w5.setCell ⟨ob, 0, none⟩ (.slice A5 ((P.length + 1) + 1) c5)).heap[ob + 2]? = some (.deferred (some [])) from (Below.heap_setCell w5 ⟨ob, 0, none⟩ _ _ (by simp)).trans hdf5)
        have HLS5 := Lib.hid (hfa.append hg5 (by first | exact ho6 | (rw [List.length_append, List.length_singleton]; exact ho6)) (.inl HGX.out))
        have b0 := hbl.cell 0
        have bf := hbl.frozen 0
        simp at b0
        clear ho5 hg5 ho6 hga hfa hla hda hbl hlp5 hdf5 r0 r1 r2 r3
        gi_wp2
        have hfin := HLS5.out.loop HLP5.out (by omega) (.loop (rec .ready none))
        refine ⟨HLP5.out, .inl ⟨rfl, ⟨put_loop HLP5.out _, (World.putObj_heap_other (by omega)).trans HDF5.out, _, _, hfin.rebase, ?_, ?_⟩, hfin.kt⟩⟩
        · have := HYL.out; simp only [List.length_append, List.length_singleton, List.length_nil] at this ⊢; omega
        · rw [List.map_append, List.map_append]
          exact HJN.out.put HK.out HOK.out (fun a Q e => by obtain ⟨rfl, e2⟩ := List.append_inj' (show P.map Prod.snd ++ [(⟨t1, L1, u1, X1⟩ : RV)] = Q ++ [a] by rw [← e, List.map_append]; rfl) rfl; obtain rfl := List.singleton_inj.1 e2; rw [← HX.out]; exact hx0)
  case post =>
    rintro e W' ⟨⟨v0, rfl⟩, hJ⟩
    refine ⟨⟨_, rfl⟩, ?_⟩
    have hls : allS L = true := HS.out.symm
    rcases hJ with ⟨M, hM1, hM2, hL, hD, v, Y, hfd, hyl, hjn⟩ | ⟨pre, hL, hD, x, h2, h3, hbw, hfl⟩
    · refine .inl ⟨hL, ?_⟩
      obtain ⟨V, hV⟩ : ∃ V, W'.putObj (ob + 2 + 1) (.loop (rec .exhausted none)) = V := ⟨_, rfl⟩
      rw [hV]
      have HFD := Lib.hid (show Ls w W' ob v Y V by rw [← hV]; exact hfd.loop hL (by omega) _)
      have HDF := Lib.hid (show V.heap[ob + 2]? = some (.deferred (some [])) by rw [← hV]; exact (World.putObj_heap_other (by omega)).trans hD)
      have HFL := Lib.hid (show listsR L = (Y.map Prod.snd, 0) by
        unfold listsR
        rw [if_pos hls, ← hjn.is]
        exact (refF_sorts (q := q) (sorts_of hM1 hM2) (fun a ha => by
          obtain ⟨z, hz, rfl⟩ := List.mem_map.1 ha
          exact HQ.out z hz)).symm)
      have HYL := Lib.hid (show Y.length ≤ 1000000 by have := hM2.length; have := HT.out; omega)
      have HBV := Lib.hid HFD.out.bel
      have HQ2 := Lib.hid HFD.out.r2
      have HQ3 := Lib.hid HFD.out.r3
      have b0 := HFD.out.b.cell 0
      simp at b0
      obtain ⟨hYn, vA, vc, rfl, hvr, hvc, hvm, hvn⟩ := own_sliceR HFD.out.own
      have hgy : ∀ y ∈ Y, Good V y := fun y hy => (HFD.out.ys y hy).elim (fun h => h.keep HBV.out) (fun h => h.good)
      have HCC := Lib.hid (copy_any vA Y.length vc Y V ⟨hvr, hgy⟩ rfl HYL.out)
      have hdV : ob + 2 < V.heap.size := lt_of_heap HDF.out
      clear hfd hyl hjn hL hD hV hrec hvr hvc hvm hvn hgy hYn hM1 hM2 hls
      gi_wp2
      refine ⟨trivial, (callsIn_wide.2 HCC.out).mono ?_⟩
      clear HCC
      rintro e9 w9 ⟨v9, Y9, rfl, ho9, hm9, hy9, hb9⟩
      obtain ⟨A9, c9, rfl⟩ := own_is ho9
      have HO9 := Lib.hid ho9
      have HM9 := Lib.hid hm9
      have HY9 := Lib.hid hy9
      have HQ2 := Lib.hid (HQ2.out.below hb9 (by omega))
      have HQ3 := Lib.hid (HQ3.out.below hb9 (by omega))
      have HD9 := Lib.hid (show w9.heap[ob + 2]? = some (.deferred (some [])) from (hb9.block _ hdV).trans HDF.out)
      have HB9 := Lib.hid (HBV.out.trans (hb9.mono HBV.out.size))
      have hwV : w.heap.size + 2 ≤ V.heap.size := by omega
      have b2 := HQ2.out.cell 0
      have f2 := HQ2.out.frozen 0
      have b3 := HQ3.out.cell 0
      have f3 := HQ3.out.frozen 0
      simp at b2 b3
      clear ho9 hm9 hy9 hb9 b0
      gi_wp2
      obtain ⟨we, hwe⟩ : ∃ we, we = (w9.setCell ⟨w.heap.size, 0, none⟩ (.slice A9 Y.length c9)).setCell ⟨w.heap.size + 1, 0, none⟩ (.int .i64 0) := ⟨_, rfl⟩
      have q2 : Blk we w.heap.size 28 #[.slice A9 Y.length c9] := by rw [hwe]; have h := (HQ2.out.set_ 0 (.slice A9 Y.length c9)).far (p := ⟨w.heap.size + 1, 0, none⟩) (by simp) (.int .i64 0); simpa using h
      have q3 : Blk we (w.heap.size + 1) 29 #[.int .i64 0] := by rw [hwe]; have h := (HQ3.out.far (p := ⟨w.heap.size, 0, none⟩) (by simp) (.slice A9 Y.length c9)).set_ 0 (.int .i64 0); simpa using h
      have qD : we.heap[ob + 2]? = some (.deferred (some [])) := by rw [hwe]; exact (Below.heap_setCell _ _ _ _ (by simp; omega)).trans ((Below.heap_setCell _ _ _ _ (by simp; omega)).trans HD9.out)
      have qB : Below w.heap.size w we := by rw [hwe]; exact bset (bset HB9.out (Nat.le_refl _) _) (by omega) _
      have q3' := HQ3.out.far (p := ⟨w.heap.size, 0, none⟩) (by simp) (.slice A9 Y.length c9)
      have qO : we.ownsRow V.heap.size 39 4 (.slice A9 Y.length c9) Y.length (cellsR Y9) := by
        rw [hwe]
        have h1 := own_set' (o := 0) (u := .slice A9 Y.length c9) HO9.out (HO9.out.not_blk HQ2.out (by decide))
        exact own_set' h1 (h1.not_blk q3' (by decide))
      have qY : ∀ y ∈ Y9, Owned V.heap.size we y := fun y hy => by
        rw [hwe]
        exact ((HY9.out y hy).setB HQ2.out (by decide) (by decide)).setB q3' (by decide) (by decide)
      have hl9 : Y9.length = Y.length := by have := congrArg List.length HM9.out; simpa using this
      rw [← hwe]
      clear hwe q3' b2 b3 f2 f3
      refine ⟨by simp, .inl ⟨_, _, rfl, run_takeDeferred qD, ?_⟩⟩
      obtain ⟨wf, hwf⟩ : ∃ wf, wf = we.putObj (ob + 2) (.deferred none) := ⟨_, rfl⟩
      have hgf : we.grownBy wf (some (ob + 2)) := by rw [hwf]; exact grownBy_putObj' _ _ _
      have c2 := (q2.grown hgf (fun e => by have := Option.some.inj e; omega)).cell 0
      have c3 := (q3.grown hgf (fun e => by have := Option.some.inj e; omega)).cell 0
      simp at c2 c3
      rw [← hwf]
      refine ⟨.tuple #[.slice A9 Y.length c9, .int .i64 0], by simp [results, Try.results9, go_sem, c2, c3], ?_⟩
      refine ⟨_, Y9, 0, rfl, by rw [HFL.out, HM9.out], ?_, ?_, qB.grown hgf qB.size (fun k e => by cases e; omega)⟩
      · rw [hl9]; exact own_less (qO.kept hgf (.inr (own_not_def qO qD))) HBV.out.size
      · exact fun y hy => ((qY y hy).grown hgf (fun g e => by cases e; exact ⟨own_not_def (qY y hy).d qD, own_not_def (qY y hy).g qD⟩)).less HBV.out.size
    · refine .inr ⟨.ret, hL, ?_⟩
      obtain ⟨V, hV⟩ : ∃ V, W'.putObj (ob + 2 + 1) (.loop (rec .exhausted (some .ret))) = V := ⟨_, rfl⟩
      rw [hV]
      have hgV : W'.grownBy V (some (ob + 2 + 1)) := by rw [← hV]; exact grownBy_putObj' _ _ _
      have q2 : Blk V w.heap.size 28 #[.slice none 0 0] := h2.grown hgV (fun e => by have := Option.some.inj e; omega)
      have q3 : Blk V (w.heap.size + 1) 29 #[.int .i64 x] := h3.grown hgV (fun e => by have := Option.some.inj e; omega)
      have qD : V.heap[ob + 2]? = some (.deferred (some [])) := (hgV.block _ (lt_of_heap hD) (fun e => by have := Option.some.inj e; omega)).trans hD
      have qB : Below w.heap.size w V := hbw.grown hgV hbw.size (fun k e => by cases e; omega)
      have HFL := Lib.hid (show listsR L = ([], x) by unfold listsR; rw [if_pos hls]; exact hfl)
      clear hV hgV h2 h3 hD hbw hfl hL hrec hls
      gi_wp2
      refine ⟨by simp, .inl ⟨_, _, rfl, run_takeDeferred qD, ?_⟩⟩
      obtain ⟨wf, hwf⟩ : ∃ wf, wf = V.putObj (ob + 2) (.deferred none) := ⟨_, rfl⟩
      have hgf : V.grownBy wf (some (ob + 2)) := by rw [hwf]; exact grownBy_putObj' _ _ _
      have c2 := (q2.grown hgf (fun e => by have := Option.some.inj e; omega)).cell 0
      have c3 := (q3.grown hgf (fun e => by have := Option.some.inj e; omega)).cell 0
      simp at c2 c3
      rw [← hwf]
      refine ⟨.tuple #[.slice none 0 0, .int .i64 x], by simp [results, Try.results9, go_sem, c2, c3], ?_⟩
      exact ⟨_, [], x, rfl, HFL.out, World.ownsRow_nil _ _ _ _, (fun y hy => absurd hy List.not_mem_nil), qB.grown hgf qB.size (fun k e => by cases e; omega)⟩
end Go.Proofs.Ytbccjkjibffbkaa
