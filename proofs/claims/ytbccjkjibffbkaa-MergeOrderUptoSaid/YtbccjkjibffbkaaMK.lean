/- How many keys. AppendSeq (45), Collect (23): all rows of the iterator in a list. CompactFunc (24): how many keys there are in a sorted list. -/
import Derived.Test.YtbccjkjibffbkaaMR
import Derived.Test.YtbccjkjibffbkaaSM
import Derived.Test.YtbccjkjibffbkaaHT
import Derived.Lib.SliceRun
namespace Go.Proofs.Ytbccjkjibffbkaa
open Go.RowKit
set_option linter.unusedSimpArgs false
set_option linter.unusedVariables false
/-- A row's key, as a row. -/
def kr (r : RV) : RV := ⟨r.t, r.dims, 0, []⟩
theorem cmpV_kr (a b : RV) : cmpV (kr a) (kr b) = cmpV a b := rfl
theorem okR_kr (a : RV) : OkR 0 (kr a) := ⟨Int.le_refl _, (by show (0 : Int) ≤ 1048576; decide), rfl, fun g h => absurd h List.not_mem_nil⟩
theorem joinR_kr {a b : RV} (h : cmpV a b = 0) : joinR (kr a) (kr b) = (kr a, 0) := by
  unfold joinR
  rw [if_pos ⟨h, rfl⟩, if_neg (by show ¬ (1048576 : Int) < 0 + 0; decide)]
  rfl
/-- How many keys there are. -/
def keysN (K : List RV) : Nat := (refF [] (K.map kr)).1.length
theorem keys_ok (K : List RV) : refF [] (K.map kr) = ((refF [] (K.map kr)).1, 0) ∧ FoldOf (K.map kr) (refF [] (K.map kr)).1 := by
  have hK : ∀ a ∈ K.map kr, OkR 0 a := fun a ha => by obtain ⟨b, _, rfl⟩ := List.mem_map.1 ha; exact okR_kr b
  have hall : ∀ M : List RV, ∀ a : RV, (∀ b ∈ M, ∃ c, b = kr c) → (∃ c, a = kr c) → (∀ b ∈ M, cmpV a b = 0) → (joinAll a M).2 = 0 := by
    intro M
    induction M with
    | nil => intro a _ _ _; rfl
    | cons b M ih =>
      intro a h1 h2 h3
      obtain ⟨c, rfl⟩ := h2
      obtain ⟨d, rfl⟩ := h1 b (List.mem_cons_self ..)
      have e := joinR_kr (a := c) (b := d) (h3 (kr d) (List.mem_cons_self ..))
      show (if (joinR (kr c) (kr d)).2 = 0 then joinAll (joinR (kr c) (kr d)).1 M else (RV.zero, (joinR (kr c) (kr d)).2)).2 = 0
      rw [e, if_pos rfl]
      exact ih _ (fun b hb => h1 b (List.mem_cons_of_mem _ hb)) ⟨c, rfl⟩ (fun b hb => h3 b (List.mem_cons_of_mem _ hb))
  have hg : ∀ k, (grp ((K.map kr).filter (keyV k))).2 = 0 := fun k => by
    rcases hf : (K.map kr).filter (keyV k) with _ | ⟨a, M⟩
    · rfl
    · have hm : ∀ b ∈ a :: M, b ∈ K.map kr ∧ cmpV k b = 0 := fun b hb => by
        rw [← hf] at hb
        have := List.mem_filter.1 hb
        exact ⟨this.1, by simpa [keyV] using this.2⟩
      show (joinAll a M).2 = 0
      refine hall M a (fun b hb => ?_) ?_ (fun b hb => ?_)
      · obtain ⟨c, _, e⟩ := List.mem_map.1 (hm b (List.mem_cons_of_mem _ hb)).1; exact ⟨c, e.symm⟩
      · obtain ⟨c, _, e⟩ := List.mem_map.1 (hm a (List.mem_cons_self ..)).1; exact ⟨c, e.symm⟩
      · rw [← cmpV_left (hm a (List.mem_cons_self ..)).2]; exact (hm b (List.mem_cons_of_mem _ hb)).2
  rcases refF_all (q := 0) (K.map kr) [] [] FoldOf.nil (fun a ha => absurd ha List.not_mem_nil) (fun a ha => absurd ha List.not_mem_nil) hK with ⟨h1, h2⟩ | ⟨_, _, k, h3⟩
  · exact ⟨Prod.ext rfl h1, h2⟩
  · exact absurd (hg k) h3
theorem keysN_sorts {K M : List RV} (h : SortsTo K M) : keysN M = keysN K := by
  unfold keysN
  have hs : SortsTo (K.map kr) (M.map kr) := ⟨List.pairwise_map.2 h.sorted, fun k => by
    rw [List.filter_map, List.filter_map]
    exact congrArg (List.map kr) (h.same k)⟩
  have hK : ∀ a ∈ K.map kr, OkR 0 a := fun a ha => by obtain ⟨b, _, rfl⟩ := List.mem_map.1 ha; exact okR_kr b
  have e1 := fold_one (q := 0) hs hK
  have e2 := fold_one (q := 0) (⟨hs.sorted, fun _ => rfl⟩ : SortsTo (M.map kr) (M.map kr)) (fun a ha => hK a (hs.mem ha))
  rw [← e1, ← e2]
/-- The keys' count, row by row, in whatever list of keys. -/
structure KeysSt (K Q : List RV) : Prop where
  len : Q.length = keysN K
  has : ∀ x, (∃ o ∈ Q, cmpV o x = 0) ↔ ∃ a ∈ K, cmpV a x = 0
theorem KeysSt.start : KeysSt [] [] := ⟨rfl, fun x => ⟨fun ⟨o, h, _⟩ => absurd h List.not_mem_nil, fun ⟨o, h, _⟩ => absurd h List.not_mem_nil⟩⟩
theorem insK_len (O : List RV) (x : RV) (h : (insK O x).2 = 0) (hs : Strict O) : (insK O x).1.length = if ∃ o ∈ O, cmpV o x = 0 then O.length else O.length + 1 := by
  have hsp : O = O.takeWhile (below x) ++ O.dropWhile (below x) := List.takeWhile_append_dropWhile.symm
  have hT : ∀ a ∈ O.takeWhile (below x), cmpV a x < 0 := fun a ha => by
    have := takeWhile_all _ _ a ha
    unfold below at this
    exact of_decide_eq_true this
  have hlen : O.length = (O.takeWhile (below x)).length + (O.dropWhile (below x)).length := by
    rw [← List.length_append, ← hsp]
  unfold insK at h ⊢
  rcases hd : O.dropWhile (below x) with _ | ⟨r, R⟩
  · rw [hd] at h
    simp only
    rw [if_neg (fun ⟨o, ho, e⟩ => by
      rw [hsp, hd, List.append_nil] at ho
      have := hT o ho; omega)]
    rw [List.length_append, hlen, hd]; rfl
  · rw [hd] at h
    have hb : ¬ cmpV r x < 0 := by
      have := dropWhile_head _ _ hd
      unfold below at this
      exact of_decide_eq_false this
    simp only at h ⊢
    by_cases h1 : cmpV r x = 0
    · rw [if_pos h1] at h ⊢
      by_cases h2 : (joinR r x).2 = 0
      · rw [if_pos h2]
        rw [if_pos ⟨r, by rw [hsp, hd]; simp, h1⟩, hlen, hd]; simp
      · rw [if_neg h2] at h; exact absurd h h2
    · rw [if_neg h1]
      rw [if_neg (fun ⟨o, ho, e⟩ => by
        rw [hsp, hd] at ho hs
        rcases List.mem_append.1 ho with ho | ho
        · have := hT o ho; omega
        · rcases List.mem_cons.1 ho with rfl | ho
          · exact h1 e
          · have h3 : cmpV r o < 0 := (List.pairwise_cons.1 (List.pairwise_append.1 hs).2.1).1 o ho
            rw [cmpV_right e] at h3
            exact hb h3), hlen, hd]
      simp; omega
theorem keysN_snoc (K : List RV) (x : RV) : keysN (K ++ [x]) = if ∃ a ∈ K, cmpV a x = 0 then keysN K else keysN K + 1 := by
  obtain ⟨h1, h2⟩ := keys_ok K
  obtain ⟨g1, _⟩ := keys_ok (K ++ [x])
  have hin : (insK (refF [] (K.map kr)).1 (kr x)) = refF [] ((K ++ [x]).map kr) := by
    rw [List.map_append]
    show _ = refF [] (K.map kr ++ [kr x])
    rw [refF_snoc, h1]
    simp only [if_pos]
  have hl := insK_len (refF [] (K.map kr)).1 (kr x) (by rw [hin, g1]) h2.strict
  rw [hin] at hl
  have hex : (∃ o ∈ (refF [] (K.map kr)).1, cmpV o (kr x) = 0) ↔ ∃ a ∈ K, cmpV a x = 0 := by
    constructor
    · rintro ⟨o, ho, e⟩
      obtain ⟨a, ha, e2⟩ := h2.mem ho
      obtain ⟨b, hb, rfl⟩ := List.mem_map.1 ha
      exact ⟨b, hb, by have : cmpV (kr b) (kr x) = 0 := by rw [← cmpV_left e2]; exact e
                       exact this⟩
    · rintro ⟨a, ha, e⟩
      have h3 : (K.map kr).filter (keyV (kr x)) ≠ [] := fun h => by
        have : kr a ∈ (K.map kr).filter (keyV (kr x)) := List.mem_filter.2 ⟨List.mem_map.2 ⟨a, ha, rfl⟩, by
          simp only [keyV, decide_eq_true_eq]
          show cmpV x a = 0
          rw [cmpV_neg, e]; rfl⟩
        rw [h] at this; exact absurd this List.not_mem_nil
      have h4 := h2.same (kr x)
      rcases hf : (K.map kr).filter (keyV (kr x)) with _ | ⟨c, M⟩
      · exact absurd hf h3
      · rw [hf] at h4
        have h5 : (refF [] (K.map kr)).1.filter (keyV (kr x)) ≠ [] := by rw [h4]; exact List.cons_ne_nil _ _
        obtain ⟨o, ho⟩ := List.exists_mem_of_ne_nil _ h5
        have h6 := List.mem_filter.1 ho
        refine ⟨o, h6.1, ?_⟩
        have h7 : cmpV (kr x) o = 0 := by simpa [keyV] using h6.2
        rw [cmpV_neg, h7]; rfl
  unfold keysN
  rw [hl]
  by_cases h : ∃ a ∈ K, cmpV a x = 0
  · rw [if_pos h, if_pos (hex.2 h)]
  · rw [if_neg h, if_neg (fun g => h (hex.1 g))]
theorem KeysSt.seen {K Q : List RV} {x : RV} (h : KeysSt K Q) (hx : ∃ o ∈ Q, cmpV o x = 0) : KeysSt (K ++ [x]) Q := by
  have hk := (h.has x).1 hx
  refine ⟨by rw [keysN_snoc, if_pos hk]; exact h.len, fun y => ?_⟩
  rw [h.has y]
  constructor
  · rintro ⟨a, ha, e⟩; exact ⟨a, List.mem_append_left _ ha, e⟩
  · rintro ⟨a, ha, e⟩
    rcases List.mem_append.1 ha with ha | ha
    · exact ⟨a, ha, e⟩
    · obtain ⟨b, hb, e2⟩ := hk
      rw [List.mem_singleton.1 ha] at e
      exact ⟨b, hb, by rw [cmpV_left e2]; exact e⟩
theorem KeysSt.new {K Q : List RV} {x : RV} (h : KeysSt K Q) (hx : ¬ ∃ o ∈ Q, cmpV o x = 0) : KeysSt (K ++ [x]) (Q ++ [x]) := by
  have hk : ¬ ∃ a ∈ K, cmpV a x = 0 := fun g => hx ((h.has x).2 g)
  refine ⟨by rw [keysN_snoc, if_neg hk, List.length_append, h.len]; rfl, fun y => ?_⟩
  constructor
  · rintro ⟨a, ha, e⟩
    rcases List.mem_append.1 ha with ha | ha
    · obtain ⟨b, hb, e2⟩ := (h.has y).1 ⟨a, ha, e⟩
      exact ⟨b, List.mem_append_left _ hb, e2⟩
    · exact ⟨a, List.mem_append_right _ ha, e⟩
  · rintro ⟨a, ha, e⟩
    rcases List.mem_append.1 ha with ha | ha
    · obtain ⟨b, hb, e2⟩ := (h.has y).2 ⟨a, ha, e⟩
      exact ⟨b, List.mem_append_left _ hb, e2⟩
    · exact ⟨a, List.mem_append_right _ ha, e⟩
/-- As many keys as joined rows. -/
theorem keysN_refF {q : Nat} {K O : List RV} (hK : ∀ a ∈ K, OkR q a) (h : refF [] K = (O, 0)) : keysN K = O.length := by
  have hf := refF_of hK h
  have hs : KeysSt K O → keysN K = O.length := fun h => h.len.symm
  have key : ∀ (n : Nat) (K : List RV), K.length = n → (∀ a ∈ K, OkR q a) → ∀ O, refF [] K = (O, 0) → keysN K = O.length := by
    intro n
    induction n with
    | zero =>
      intro K hn _ O hO
      obtain rfl : K = [] := List.eq_nil_of_length_eq_zero hn
      cases hO; rfl
    | succ n ih =>
      intro K hn hK O hO
      rcases List.eq_nil_or_concat K with rfl | ⟨L, x, rfl⟩
      · cases hn
      · rw [List.concat_eq_append] at hn hK hO ⊢
        rw [refF_snoc] at hO
        by_cases hL : (refF [] L).2 = 0
        · rw [if_pos hL] at hO
          have hKL : ∀ a ∈ L, OkR q a := fun a ha => hK a (List.mem_append_left _ ha)
          have e : refF [] L = ((refF [] L).1, 0) := Prod.ext rfl hL
          have i1 := ih L (by simp at hn; exact hn) hKL _ e
          have f1 := refF_of hKL e
          have hl := insK_len (refF [] L).1 x (by rw [hO]) f1.strict
          rw [hO] at hl
          have hex : (∃ o ∈ (refF [] L).1, cmpV o x = 0) ↔ ∃ a ∈ L, cmpV a x = 0 := by
            constructor
            · rintro ⟨o, ho, e⟩
              obtain ⟨a, ha, e2⟩ := f1.mem ho
              exact ⟨a, ha, by rw [← cmpV_left e2]; exact e⟩
            · rintro ⟨a, ha, e⟩
              have h4 := f1.same x
              rcases hf : L.filter (keyV x) with _ | ⟨c, M⟩
              · exfalso
                have : a ∈ L.filter (keyV x) := List.mem_filter.2 ⟨ha, by simp only [keyV, decide_eq_true_eq]; rw [cmpV_neg, e]; rfl⟩
                rw [hf] at this; exact absurd this List.not_mem_nil
              · rw [hf] at h4
                have h5 : (refF [] L).1.filter (keyV x) ≠ [] := by rw [h4]; exact List.cons_ne_nil _ _
                obtain ⟨o, ho⟩ := List.exists_mem_of_ne_nil _ h5
                have h6 := List.mem_filter.1 ho
                have h7 : cmpV x o = 0 := by simpa [keyV] using h6.2
                exact ⟨o, h6.1, by rw [cmpV_neg, h7]; rfl⟩
          rw [keysN_snoc, hl, i1]
          by_cases h : ∃ a ∈ L, cmpV a x = 0
          · rw [if_pos h, if_pos (hex.2 h)]
          · rw [if_neg h, if_neg (fun g => h (hex.1 g))]
        · rw [if_neg hL] at hO
          exact absurd (congrArg Prod.snd hO) hL
  exact key K.length K rfl hK O h
end Go.Proofs.Ytbccjkjibffbkaa
namespace Go.Proofs.Ytbccjkjibffbkaa
open Go.RowKit Go.Shelf
set_option linter.unusedSimpArgs false
set_option linter.unusedVariables false
attribute [local go_sem] Oper.semAt_some
/-- What AppendSeq keeps. -/
structure As (w W1 : World) (bx : Nat) (v : Value) (Y : List RZ) (W : World) : Prop where
  b : Blk W bx 28 #[v]
  lt : w.heap.size ≤ bx
  kt : KT w.heap.size W1 W
  bel : Below w.heap.size w W
  own : W.ownsRow w.heap.size 39 4 v Y.length (cellsR Y)
section
variable {w W1 W W' : World} {bx : Nat} {v : Value} {Y : List RZ}
theorem As.rebase (h : As w W1 bx v Y W) : As w W bx v Y W := { h with kt := KT.refl _ _ }
theorem As.none (h : As w W1 bx v Y W) (hg : W.grownBy W' none) : As w W1 bx v Y W' :=
  ⟨h.b.grown hg (by simp), h.lt, h.kt.trans (KT.grown hg h.bel.size (fun g e => by cases e)), h.bel.grown hg h.bel.size (fun k e => by cases e), h.own.kept hg (by cases v.ownBlock <;> simp)⟩
theorem As.ko (h : As w W1 bx v Y W) (hk : KO W W') (hb : Below w.heap.size w W') : As w W' bx v Y W' :=
  ⟨hk.blk_ h.b (by decide) (by decide), h.lt, KT.refl _ _, hb, hk.own h.own (by decide) (by decide)⟩
theorem As.loop {l : Nat} {r : Loop} (h : As w W1 bx v Y W) (hl : W.heap[l]? = some (.loop r)) (hlw : w.heap.size ≤ l) (o : Obj) : As w W1 bx v Y (W.putObj l o) := by
  have hg := grownBy_putObj' W l o
  exact ⟨h.b.grown hg (fun e => loop_not_blk hl h.b (Option.some.inj e)), h.lt, h.kt.trans (KT.loop hl o hlw), h.bel.grown hg h.bel.size (fun k e => by cases e; exact hlw), h.own.kept hg (.inr (own_not_loop h.own hl))⟩
theorem As.append {v' : Value} {z : RZ} (h : As w W1 bx v Y W) (hg : W.grownBy W' v.ownBlock) (ho : W'.ownsRow w.heap.size 39 4 v' (Y.length + 1) (cellsR (Y ++ [z]))) : As w W1 bx v' (Y ++ [z]) (W'.setCell ⟨bx, 0, Option.none⟩ v') := by
  have hb' := h.b.grown hg (h.own.not_blk h.b (by decide))
  have hgs : W'.grownBy (W'.setCell ⟨bx, 0, Option.none⟩ v') (some bx) := ⟨rfl, rfl, rfl, by simp [World.setCell], fun i hi hne => Below.heap_setCell W' _ _ i (fun e => hne (by rw [e]))⟩
  have hk1 : KT w.heap.size W W' := KT.row h.own hg h.bel.size (Nat.le_refl _) (by decide) (by decide)
  have hlt := h.lt
  refine ⟨by have := hb'.set_ 0 v'; simpa using this, h.lt, (h.kt.trans hk1).trans (KT.blk hb' hgs h.lt (by decide) (by decide)), ?_, ?_⟩
  · exact (h.bel.trans hk1.1).grown hgs (by have := h.bel.size; have := hg.size; omega) (fun k e => by cases e; exact hlt)
  · have := ho.kept hgs (.inr (ho.not_blk hb' (by decide)))
    rw [List.length_append]; exact this
end
def SeqPost (w : World) (L : List Le) (e : Ending) (w' : World) : Prop := ∃ v M, e = .returned v ∧ SortedF sF M ∧ SameF sF (L.map Le.Z).flatten M ∧ w'.ownsRow w.heap.size 39 4 v M.length (cellsR M) ∧ Below w.heap.size w w'
set_option maxRecDepth 100000 in
set_option maxHeartbeats 16000000 in
theorem seq_any (A : Option Addr) (n c Bs : Nat) (L : List Le) (w : World) (hL : LsIn w A L) (hn : n = L.length) (hl : L.length ≤ 1900000) (hs : ∀ x ∈ L, SortedF sF x.Z) (ht : (L.map Le.Z).flatten.length ≤ 1000000) (hb : w.cell? ⟨Bs, 0, none⟩ = some (.slice A n c)) :
    Calls Try.prog 45 #[.slice none 0 0, .func (.func 32) #[] #[.pointer (some ⟨Bs, 0, none⟩)]] w (SeqPost w L) := by
  refine (callsIn_wide (n := 9)).1 ?_
  have HIN := Lib.hid hL
  have HN := Lib.hid hn
  have HLL := Lib.hid hl
  have HT := Lib.hid ht
  have HSR := Lib.hid hs
  have HBS := Lib.hid hb
  obtain ⟨i0, hi0, hz0, hz1, hz2⟩ := info_parts info27
  clear hL hn hl ht hs hb
  refine callsIn_of_wp_marks Try.func45 rfl trivial ?_ rfl
  simp only [Try.ntmps45, List.size_toArray, List.length_cons, List.length_nil, Nat.reduceAdd, Nat.reduceSub, Array.replicate_succ, Array.replicate_zero, List.push_toArray, List.append_toArray, List.nil_append, List.cons_append]
  gi_wp2
  obtain ⟨W3, hW3⟩ : ∃ W3, W3 = w.alloc (.cells #[.slice none 0 0] 28) := ⟨_, rfl⟩
  obtain ⟨bx, hbx⟩ : ∃ bx, bx = w.heap.size := ⟨_, rfl⟩
  have hsz3 : W3.heap.size = bx + 1 := by rw [hW3, hbx]; simp
  have HAS := Lib.hid (show As w W3 bx (.slice none 0 0) [] W3 from ⟨by rw [hW3, hbx]; exact Blk.new w 28 _, by omega, KT.refl _ _, by rw [hW3]; exact bpush (Below.refl _ _) _, World.ownsRow_nil _ _ _ _⟩)
  rw [← hW3, ← hbx]
  have hbxl : w.heap.size ≤ bx := by omega
  clear hW3 hbx
  refine range_rec (by omega) (gf := 32) (lb := #[.pointer (some ⟨Bs, 0, none⟩)]) rfl (enters_of Try.func32 (by kernel_rfl) rfl) ?_
  intro fn rec hrec
  rw [hsz3] at hrec ⊢
  obtain ⟨W5, hW5⟩ : ∃ W5, W5 = (W3.alloc (.deferred (some []))).alloc (.loop (rec .ready none)) := ⟨_, rfl⟩
  have hb5 : Below W3.heap.size W3 W5 := by rw [hW5]; exact bpush (bpush (Below.refl _ _) _) _
  have h5l : W5.heap[bx + 1 + 1]? = some (.loop (rec .ready none)) := by
    rw [hW5]
    have := World.alloc_heap_new (W3.alloc (.deferred (some []))) (.loop (rec .ready none))
    rw [World.size_alloc, hsz3] at this
    exact this
  have h5d : W5.heap[bx + 1]? = some (.deferred (some [])) := by
    rw [hW5]
    have := World.alloc_heap_new W3 (.deferred (some []))
    rw [hsz3] at this
    exact (Below.heap_alloc _ _ _ (by simp; omega)).trans this
  have HAS5 := Lib.hid (HAS.out.none (grown_none hb5))
  have h5b : W5.cell? ⟨Bs, 0, none⟩ = some (.slice A n c) := cell_later HAS5.out.bel HBS.out
  rw [← hW5]
  clear hW5 hb5
  refine CallsIn.mono (all_in 8 (by omega) (bx + 1 + 1) Bs n c A L w W5 HN.out HLL.out h5b HIN.out HAS5.out.bel HSR.out
    (fun pre W => W.heap[bx + 1 + 1]? = some (.loop (rec .ready none)) ∧ W.heap[bx + 1]? = some (.deferred (some [])) ∧ ∃ v, As w W bx v pre W)
    (fun pre W => False)
    ?keep ?round ?start) ?post
  case keep =>
    rintro pre W1 W2 ⟨h1, h2, v, h3⟩ hk hb1 hb2
    exact ⟨hk.loop h1, hk.def_ h2, v, h3.ko hk hb2⟩
  case start => exact ⟨h5l, h5d, _, HAS5.out.rebase⟩
  case round =>
    rintro pre ⟨⟨D, dn, dc, G, gn, gc⟩, ⟨t, Lx, u, X⟩⟩ W hsf ⟨T, hsame⟩ ⟨hL, hD, v, hls⟩
    have hpl : pre.length + 1 ≤ 1000000 := by
      have h1 := hsame.length
      have h2 := HT.out
      rw [List.length_append, List.length_append] at h1
      simp only [List.length_singleton] at h1
      omega
    simp only [encR_eq]
    obtain ⟨Wa, hWa⟩ : ∃ Wa, Wa = W.alloc (.cells #[.int .i64 t, .slice D dn dc, .int .i64 u, .slice G gn gc] 39) := ⟨_, rfl⟩
    obtain ⟨V, hV⟩ : ∃ V, Wa.putObj (bx + 1 + 1) (.loop (rec .busy none)) = V := ⟨_, rfl⟩
    have hga : W.grownBy Wa none := by rw [hWa]; exact World.grownBy_alloc W _ none
    have hla : Wa.heap[bx + 1 + 1]? = some (.loop (rec .ready none)) := by rw [hWa]; exact (Below.heap_alloc W _ _ (lt_of_heap hL)).trans hL
    have hda : Wa.heap[bx + 1]? = some (.deferred (some [])) := by rw [hWa]; exact (Below.heap_alloc W _ _ (lt_of_heap hD)).trans hD
    have HLA := Lib.hid hla
    have hra : Blk Wa W.heap.size 39 #[.int .i64 t, .slice D dn dc, .int .i64 u, .slice G gn gc] := by rw [hWa]; exact Blk.new W 39 _
    have hstv := (hls.none hga).loop hla (by omega) (.loop (rec .busy none))
    rw [hV] at hstv
    have HST := Lib.hid hstv
    have HLP := Lib.hid (show V.heap[bx + 1 + 1]? = some (.loop (rec .busy none)) by rw [← hV]; exact put_loop hla _)
    have HDF := Lib.hid (show V.heap[bx + 1]? = some (.deferred (some [])) by rw [← hV]; exact (World.putObj_heap_other (by omega)).trans hda)
    have HRV := Lib.hid (show Blk V W.heap.size 39 #[.int .i64 t, .slice D dn dc, .int .i64 u, .slice G gn gc] by rw [← hV]; exact (World.putObj_heap_other (Ne.symm (loop_not_blk hla hra))).trans hra)
    have HWa := Lib.hid hWa
    have HV := Lib.hid hV
    refine round_rec hrec hL rfl ?_
    clear hls hga hla hda hra hstv hWa hV hL hD hrec hsame hsf
    gi_wp2
    rw [← HWa.out]
    refine ⟨HLA.out, ?_⟩
    rw [HV.out]
    obtain ⟨rb, hrb⟩ : ∃ rb, rb = W.heap.size := ⟨_, rfl⟩
    rw [← hrb] at HRV ⊢
    clear HWa HV HLA hrb Wa
    have b0 := HST.out.b.cell 0
    simp at b0
    have r0 : V.cell? ⟨rb, 0, none⟩ = some (.int .i64 t) := HRV.out.cell 0
    have r1 : V.cell? ⟨rb, 1, none⟩ = some (.slice D dn dc) := HRV.out.cell 1
    have r2 : V.cell? ⟨rb, 2, none⟩ = some (.int .i64 u) := HRV.out.cell 2
    have r3 : V.cell? ⟨rb, 3, none⟩ = some (.slice G gn gc) := HRV.out.cell 3
    have hwv : w.heap.size ≤ V.heap.size := HST.out.bel.size
    gi_wp2_with (gi_at_builtin; refine wpListIn_append_own _ rfl _ _ 28 rfl w.heap.size 39 i0 (.agg #[.int .i64 0, .slice none 0 0, .int .i64 0, .slice none 0 0]) 4 64 Try.underlying28 hi0 hz0 hz1 hz2 rfl (by decide) v pre.length (cellsR pre) rfl (HST.out.own.alloc _) ⟨V.heap.size, 0, none⟩ 1 1 [.int .i64 t, .slice D dn dc, .int .i64 u, .slice G gn gc] rfl rfl (Row.made rfl rfl).at' (by intro u hu; simp at hu; rcases hu with rfl | rfl | rfl | rfl <;> rfl) (by unfold maxLen; omega) (by omega) (by simp; omega) ?_)
    intro v5 w5 ho5 hg5 _
    have ho6 : w5.ownsRow w.heap.size 39 4 v5 (pre.length + 1) (cellsR (pre ++ [(⟨D, dn, dc, G, gn, gc⟩, ⟨t, Lx, u, X⟩)])) := by rw [cellsR_app]; exact ho5
    obtain ⟨A5, c5, rfl⟩ := own_is ho6
    have hga := World.grownBy_alloc V (.cells #[.int .i64 t, .slice D dn dc, .int .i64 u, .slice G gn gc] 39) none
    have hfa := HST.out.none hga
    have hla := (hga.block _ (lt_of_heap HLP.out) (by simp)).trans HLP.out
    have hda := (hga.block _ (lt_of_heap HDF.out) (by simp)).trans HDF.out
    have hbl : Blk w5 bx 28 #[_] := hfa.b.grown hg5 (hfa.own.not_blk hfa.b (by decide))
    have hlp5 : w5.heap[bx + 1 + 1]? = some (.loop (rec .busy none)) := (hg5.block _ (lt_of_heap hla) (Ne.symm (own_not_loop hfa.own hla))).trans hla
    have hdf5 : w5.heap[bx + 1]? = some (.deferred (some [])) := (hg5.block _ (lt_of_heap hda) (Ne.symm (own_not_def hfa.own hda))).trans hda
    have HLP5 := Lib.hid (show (w5.setCell ⟨bx, 0, none⟩ (.slice A5 (pre.length + 1) c5)).heap[bx + 1 + 1]? = some (.loop (rec .busy none)) from (Below.heap_setCell w5 ⟨bx, 0, none⟩ _ _ (by simp; omega)).trans hlp5)
    have HDF5 := Lib.hid (show (w5.setCell ⟨bx, 0, none⟩ (.slice A5 (pre.length + 1) c5)).heap[bx + 1]? = some (.deferred (some [])) from (Below.heap_setCell w5 ⟨bx, 0, none⟩ _ _ (by simp)).trans hdf5)
    have HLS5 := Lib.hid (hfa.append hg5 ho6)
    have b0 := hbl.cell 0
    have bf := hbl.frozen 0
    simp at b0
    clear ho5 hg5 ho6 hga hfa hla hda hbl hlp5 hdf5 r0 r1 r2 r3
    gi_wp2
    have hfin := HLS5.out.loop HLP5.out (by omega) (.loop (rec .ready none))
    exact ⟨HLP5.out, .inl ⟨rfl, ⟨put_loop HLP5.out _, (World.putObj_heap_other (by omega)).trans HDF5.out, _, hfin.rebase⟩, hfin.kt⟩⟩
  case post =>
    rintro e W' ⟨⟨v0, rfl⟩, hJ⟩
    refine ⟨⟨_, rfl⟩, .inl ?_⟩
    rcases hJ with ⟨M, hM1, hM2, hL, hD, v, hls⟩ | ⟨pre, h⟩
    · refine ⟨hL, ?_⟩
      obtain ⟨V, hV⟩ : ∃ V, W'.putObj (bx + 1 + 1) (.loop (rec .exhausted none)) = V := ⟨_, rfl⟩
      rw [hV]
      have HST := Lib.hid (show As w W' bx v M V by rw [← hV]; exact hls.loop hL (by omega) _)
      have HDF := Lib.hid (show V.heap[bx + 1]? = some (.deferred (some [])) by rw [← hV]; exact (World.putObj_heap_other (by omega)).trans hD)
      have hb0 := HST.out.b.cell 0
      simp at hb0
      obtain ⟨vA, vc, rfl⟩ := own_is HST.out.own
      clear hls hD hV hrec hL
      gi_wp2
      refine ⟨by simp, .inl ⟨_, _, rfl, run_takeDeferred HDF.out, ?_⟩⟩
      refine ⟨_, results_tmp rfl _ _ _, _, M, rfl, hM1, hM2, ?_, ?_⟩
      · exact ownsRow_putObj HST.out.own (.deferred none) HDF.out rfl
      · exact HST.out.bel.grown (grownBy_putObj' V (bx + 1) (.deferred none)) HST.out.bel.size (fun k e => by cases e; omega)
    · exact h.elim
theorem collect_any (A : Option Addr) (n c Bs : Nat) (L : List Le) (w : World) (hL : LsIn w A L) (hn : n = L.length) (hl : L.length ≤ 1900000) (hs : ∀ x ∈ L, SortedF sF x.Z) (ht : (L.map Le.Z).flatten.length ≤ 1000000) (hb : w.cell? ⟨Bs, 0, none⟩ = some (.slice A n c)) :
    Calls Try.prog 23 #[.func (.func 32) #[] #[.pointer (some ⟨Bs, 0, none⟩)]] w (SeqPost w L) := by
  have HC := Lib.hid (seq_any A n c Bs L w hL hn hl hs ht hb)
  clear hL hn hl hs ht hb
  go_enter Try.func23, Try.ntmps23
  go_wp2_with (go_at_call 45; refine HC.out.mono ?_; rintro e w2 ⟨v, M, rfl, h1, h2, h3, h4⟩; have HH := Lib.hid (And.intro h1 (And.intro h2 (And.intro h3 h4))); clear h1 h2 h3 h4)
  go_ret
  exact ⟨v, M, rfl, HH.out⟩
end Go.Proofs.Ytbccjkjibffbkaa
namespace Go.Proofs.Ytbccjkjibffbkaa
open Go.RowKit Go.Shelf
set_option linter.unusedSimpArgs false
set_option linter.unusedVariables false
/-- Stats$1 (22): have two rows one key? -/
theorem eq_any (y z : RZ) (w : World) (hy : Good w y) (hz : Good w z) : Calls Try.prog 22 #[.agg (encR y).toArray, .agg (encR z).toArray] w fun e w' => e = .returned (.bool (decide (cmpV y.2 z.2 = 0))) ∧ Below w.heap.size w w' := by
  obtain ⟨⟨D1, n1, c1, G1, gn1, gc1⟩, ⟨t1, L1, u1, X1⟩⟩ := y
  obtain ⟨⟨D, dn, dc, G, gn, gc⟩, ⟨t, Lx, u, X⟩⟩ := z
  simp only [encR_eq]
  obtain ⟨W1, hW1⟩ : ∃ W1, W1 = (w.alloc (.cells #[.int .i64 t1, .slice D1 n1 c1, .int .i64 u1, .slice G1 gn1 gc1] 39)).alloc (.cells #[.int .i64 t, .slice D dn dc, .int .i64 u, .slice G gn gc] 39) := ⟨_, rfl⟩
  have hb1 : Below w.heap.size w W1 := by rw [hW1]; exact bpush (bpush (Below.refl _ _) _) _
  have g1 := hy.keep hb1
  have g2 := hz.keep hb1
  have k1 := g1.sd
  have k2 := g2.sd
  simp at k1 k2
  obtain ⟨x, hx⟩ : ∃ x, x = cmpK t1 t L1 Lx := ⟨_, rfl⟩
  have HC := Lib.hid (compare_any t1 t u1 u D1 D G1 G n1 c1 dn dc gn1 gc1 gn gc L1 Lx W1 g1.rd g2.rd g1.nd g2.nd (by omega) (by omega))
  rw [← hx] at HC
  have HX := Lib.hid (show cmpV (⟨t1, L1, u1, X1⟩ : RV) ⟨t, Lx, u, X⟩ = x from hx.symm)
  have x0 : W1.cell? ⟨w.heap.size, 0, none⟩ = some (.int .i64 t1) := by rw [hW1]; exact cell_on (bpush (Below.refl _ _) _) (cell_made rfl rfl)
  have x1 : W1.cell? ⟨w.heap.size, 1, none⟩ = some (.slice D1 n1 c1) := by rw [hW1]; exact cell_on (bpush (Below.refl _ _) _) (cell_made rfl rfl)
  have x2 : W1.cell? ⟨w.heap.size, 2, none⟩ = some (.int .i64 u1) := by rw [hW1]; exact cell_on (bpush (Below.refl _ _) _) (cell_made rfl rfl)
  have x3 : W1.cell? ⟨w.heap.size, 3, none⟩ = some (.slice G1 gn1 gc1) := by rw [hW1]; exact cell_on (bpush (Below.refl _ _) _) (cell_made rfl rfl)
  have y0 : W1.cell? ⟨w.heap.size + 1, 0, none⟩ = some (.int .i64 t) := by rw [hW1]; exact cell_made (by simp) rfl
  have y1 : W1.cell? ⟨w.heap.size + 1, 1, none⟩ = some (.slice D dn dc) := by rw [hW1]; exact cell_made (by simp) rfl
  have y2 : W1.cell? ⟨w.heap.size + 1, 2, none⟩ = some (.int .i64 u) := by rw [hW1]; exact cell_made (by simp) rfl
  have y3 : W1.cell? ⟨w.heap.size + 1, 3, none⟩ = some (.slice G gn gc) := by rw [hW1]; exact cell_made (by simp) rfl
  have HB1 := Lib.hid hb1
  have HW1 := Lib.hid hW1
  clear hW1 hb1 g1 g2 k1 k2 hy hz hx
  go_enter Try.func22, Try.ntmps22
  go_upto_region 1 with fail
  rw [← HW1.out]
  go_wp2_with (go_at_call 18; refine HC.out.mono ?_; rintro e w2 ⟨rfl, hb⟩; have HB2 := Lib.hid hb; clear hb)
  go_ret
  refine ⟨?_, HB1.out.trans (HB2.out.mono HB1.out.size)⟩
  rw [HX.out]
  first | rfl | (by_cases h : x = 0 <;> simp [h])
end Go.Proofs.Ytbccjkjibffbkaa
