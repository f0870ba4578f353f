/- What Lists keeps between two rounds. -/
import Derived.Test.YtbccjkjibffbkaaMR
import Derived.Test.YtbccjkjibffbkaaML
import Derived.Test.YtbccjkjibffbkaaMI
namespace Go.Proofs.Ytbccjkjibffbkaa
open Go.RowKit Go.Shelf
set_option linter.unusedSimpArgs false
set_option linter.unusedVariables false
theorem KO.obj {a b : World} (h : KO a b) {i : Nat} {o : Obj} (hi : a.heap[i]? = some o) (ho : ∀ cs t, o = .cells cs t (0, 0) → t ≠ 60 ∧ t ≠ 63) : b.heap[i]? = some o := by
  rcases h.blk i (lt_of_heap hi) with h1 | ⟨cs, t, h1, ht⟩
  · exact h1.trans hi
  · have e : some o = some (.cells cs t (0, 0)) := hi.symm.trans h1
    have := ho cs t (Option.some.inj e)
    rcases ht with rfl | rfl
    · exact absurd rfl this.1
    · exact absurd rfl this.2
theorem KO.blk_ {a b : World} (h : KO a b) {i : Nat} {t : TypeId} {cs : Array Value} (hb : Blk a i t cs) (h1 : t ≠ 60) (h2 : t ≠ 63) : Blk b i t cs :=
  h.obj hb fun cs' t' e => by cases e; exact ⟨h1, h2⟩
theorem KO.loop {a b : World} (h : KO a b) {i : Nat} {r : Loop} (hb : a.heap[i]? = some (.loop r)) : b.heap[i]? = some (.loop r) := h.obj hb fun cs t e => by cases e
theorem KO.def_ {a b : World} (h : KO a b) {i : Nat} {r : Option (List Deferred)} (hb : a.heap[i]? = some (.deferred r)) : b.heap[i]? = some (.deferred r) := h.obj hb fun cs t e => by cases e
theorem KO.own {a b : World} (h : KO a b) {B size : Nat} {e : TypeId} {v : Value} {n : Nat} {xs : List Value} (ho : a.ownsRow B e size v n xs) (h1 : e ≠ 60) (h2 : e ≠ 63) : b.ownsRow B e size v n xs := by
  refine ⟨ho.1, ?_⟩
  rcases ho.2 with h3 | ⟨g, cap, cur, rfl, hb, hh, rest⟩
  · exact .inl h3
  · exact .inr ⟨g, cap, cur, rfl, hb, h.blk_ hh h1 h2, rest⟩
theorem KO.owned {a b : World} (h : KO a b) {B : Nat} {z : RZ} (ho : Owned B a z) : Owned B b z := ⟨h.own ho.d (by decide) (by decide), h.own ho.g (by decide) (by decide), ho.sd, ho.sg⟩
theorem KT.grown {n₀ : Nat} {A B : World} {row : Option Nat} (hg : A.grownBy B row) (hn : n₀ ≤ A.heap.size) (h : ∀ g, row = some g → n₀ ≤ g ∧ ∀ cs t, Blk A g t cs → t ≠ 60 ∧ t ≠ 63) : KT n₀ A B := by
  refine ⟨⟨hg.os, hg.tape, hg.output, hg.size, fun i hi => hg.block i (by omega) (fun e => ?_)⟩, fun i cs t ht hb => (hg.block i hb.lt (fun e => ?_)).trans hb⟩
  · have := (h i e.symm).1; omega
  · have := (h i e.symm).2 cs t hb
    rcases ht with rfl | rfl
    · exact this.1 rfl
    · exact this.2 rfl
theorem KT.row {n₀ : Nat} {A B : World} {C size : Nat} {e : TypeId} {v : Value} {n : Nat} {xs : List Value} (ho : A.ownsRow C e size v n xs) (hg : A.grownBy B v.ownBlock) (hn : n₀ ≤ A.heap.size) (hC : n₀ ≤ C) (h1 : e ≠ 60) (h2 : e ≠ 63) : KT n₀ A B := by
  refine KT.grown hg hn fun g eg => ?_
  rcases ho.2 with ⟨rfl, _⟩ | ⟨g', cap, cur, rfl, hb, hh, _⟩
  · simp [Value.ownBlock] at eg
  · obtain rfl : g' = g := by simpa [Value.ownBlock] using eg
    refine ⟨by omega, fun cs t hk => ?_⟩
    have := hk.symm.trans hh
    cases this; exact ⟨h1, h2⟩
theorem KT.blk {n₀ : Nat} {A B : World} {g : Nat} {t : TypeId} {cs : Array Value} (hb : Blk A g t cs) (hg : A.grownBy B (some g)) (hn : n₀ ≤ g) (h1 : t ≠ 60) (h2 : t ≠ 63) : KT n₀ A B :=
  KT.grown hg (by have := hb.lt; omega) fun g' e => by
    cases e
    refine ⟨hn, fun cs' t' hk => ?_⟩
    have := hk.symm.trans hb
    cases this; exact ⟨h1, h2⟩
theorem KT.loop {n₀ : Nat} {A : World} {l : Nat} {r : Loop} (hl : A.heap[l]? = some (.loop r)) (o : Obj) (hn : n₀ ≤ l) : KT n₀ A (A.putObj l o) :=
  KT.grown (grownBy_putObj' A l o) (by have := lt_of_heap hl; omega) fun g e => by
    cases e
    refine ⟨hn, fun cs' t' hk => ?_⟩
    have := hk.symm.trans hl
    cases this
/-- What Lists keeps: its own cells, the rows joined so far. -/
structure Ls (w W1 : World) (ob : Nat) (v : Value) (Y : List RZ) (W : World) : Prop where
  b : Blk W ob 28 #[v]
  r2 : Blk W w.heap.size 28 #[.slice none 0 0]
  r3 : Blk W (w.heap.size + 1) 29 #[.int .i64 0]
  lt : w.heap.size + 2 ≤ ob
  kt : KT w.heap.size W1 W
  bel : Below w.heap.size w W
  own : W.ownsRow w.heap.size 39 4 v Y.length (cellsR Y)
  ys : ∀ y ∈ Y, Good w y ∨ Owned w.heap.size W y
section
variable {w W1 W W' : World} {ob : Nat} {v : Value} {Y : List RZ}
theorem Ls.rebase (h : Ls w W1 ob v Y W) : Ls w W ob v Y W := { h with kt := KT.refl _ _ }
theorem Ls.none (h : Ls w W1 ob v Y W) (hg : W.grownBy W' none) : Ls w W1 ob v Y W' :=
  ⟨h.b.grown hg (by simp), h.r2.grown hg (by simp), h.r3.grown hg (by simp), h.lt, h.kt.trans (KT.grown hg h.bel.size (fun g e => by cases e)),
    h.bel.grown hg h.bel.size (fun k e => by cases e), h.own.kept hg (by cases v.ownBlock <;> simp), fun y hy => (h.ys y hy).imp id fun k => k.grown hg (fun g e => by cases e)⟩
theorem Ls.ko (h : Ls w W1 ob v Y W) (hk : KO W W') (hb : Below w.heap.size w W') : Ls w W' ob v Y W' :=
  ⟨hk.blk_ h.b (by decide) (by decide), hk.blk_ h.r2 (by decide) (by decide), hk.blk_ h.r3 (by decide) (by decide), h.lt, KT.refl _ _, hb, hk.own h.own (by decide) (by decide), fun y hy => (h.ys y hy).imp id hk.owned⟩
theorem Ls.loop {l : Nat} {r : Loop} (h : Ls w W1 ob v Y W) (hl : W.heap[l]? = some (.loop r)) (hlw : w.heap.size ≤ l) (o : Obj) : Ls w W1 ob v Y (W.putObj l o) := by
  have hg := grownBy_putObj' W l o
  exact ⟨h.b.grown hg (fun e => loop_not_blk hl h.b (Option.some.inj e)), h.r2.grown hg (fun e => loop_not_blk hl h.r2 (Option.some.inj e)), h.r3.grown hg (fun e => loop_not_blk hl h.r3 (Option.some.inj e)), h.lt,
    h.kt.trans (KT.loop hl o hlw), h.bel.grown hg h.bel.size (fun k e => by cases e; exact hlw),
    h.own.kept hg (.inr (own_not_loop h.own hl)),
    fun y hy => (h.ys y hy).imp id fun k => k.grown hg (fun g e => by cases e; exact ⟨own_not_loop k.d hl, own_not_loop k.g hl⟩)⟩
theorem Ls.append {v' : Value} {z : RZ} (h : Ls w W1 ob v Y W) (hg : W.grownBy W' v.ownBlock) (ho : W'.ownsRow w.heap.size 39 4 v' (Y.length + 1) (cellsR (Y ++ [z]))) (hz : Good w z ∨ Owned w.heap.size W z) : Ls w W1 ob v' (Y ++ [z]) (W'.setCell ⟨ob, 0, Option.none⟩ v') := by
  have hb' := h.b.grown hg (h.own.not_blk h.b (by decide))
  have hne : ∀ y, Good w y ∨ Owned w.heap.size W y → Good w y ∨ Owned w.heap.size W' y := fun y hy => hy.imp id fun k => ⟨k.d.kept hg (own_not_own k.d h.own (by decide)), k.g.kept hg (own_not_own k.g h.own (by decide)), k.sd, k.sg⟩
  have hgs : W'.grownBy (W'.setCell ⟨ob, 0, Option.none⟩ v') (some ob) := ⟨rfl, rfl, rfl, by simp [World.setCell], fun i hi hne => Below.heap_setCell W' _ _ i (fun e => hne (by rw [e]))⟩
  have hlt := h.lt
  have hk1 : KT w.heap.size W W' := KT.row h.own hg h.bel.size (Nat.le_refl _) (by decide) (by decide)
  refine ⟨by have := hb'.set_ 0 v'; simpa using this, ?_, ?_, h.lt, (h.kt.trans hk1).trans (KT.blk hb' hgs (by omega) (by decide) (by decide)), ?_, ?_, ?_⟩
  · exact (h.r2.grown hg (h.own.not_blk h.r2 (by decide))).grown hgs (fun e => by have := Option.some.inj e; omega)
  · exact (h.r3.grown hg (h.own.not_blk h.r3 (by decide))).grown hgs (fun e => by have := Option.some.inj e; omega)
  · exact (h.bel.trans hk1.1).grown hgs (by have := h.bel.size; have := hg.size; omega) (fun k e => by cases e; omega)
  · have := ho.kept hgs (.inr (ho.not_blk hb' (by decide)))
    rw [List.length_append]; exact this
  · intro y hy
    have hy' : Good w y ∨ Owned w.heap.size W' y := by
      rcases List.mem_append.1 hy with h1 | h1
      · exact hne y (h.ys y h1)
      · rw [List.mem_singleton.1 h1]; exact hne z hz
    exact hy'.imp id fun k => k.grown hgs (fun g e => by cases e; exact ⟨k.d.not_blk hb' (by decide), k.g.not_blk hb' (by decide)⟩)
theorem set_last (P : List RZ) (a z : RZ) : ((((cellsR (P ++ [a])).set (P.length * 4) (.int .i64 z.2.t)).set (P.length * 4 + 1) (.slice z.1.D z.1.n z.1.c)).set (P.length * 4 + 2) (.int .i64 z.2.count)).set (P.length * 4 + 3) (.slice z.1.G z.1.gn z.1.gc) = cellsR (P ++ [z]) := by
  have hl := cellsR_length P
  rw [cellsR_app, cellsR_app]
  have e : ∀ y : RZ, cellsR [y] = encR y := fun y => by rw [cellsR_cons]; show encR y ++ [] = _; rw [List.append_nil]
  rw [e, e, ← hl]
  rw [List.set_append_right _ _ (Nat.le_refl _), List.set_append_right _ _ (by omega), List.set_append_right _ _ (by omega), List.set_append_right _ _ (by omega)]
  simp only [Nat.sub_self, Nat.add_sub_cancel_left]
  rfl
/-- The last row, stored anew. -/
theorem Ls.store {P : List RZ} {a z : RZ} {g n c : Nat} (h : Ls w W1 ob (.slice (some ⟨g, 0, Option.none⟩) n c) (P ++ [a]) W) (hz : Owned w.heap.size W z) :
    Ls w W1 ob (.slice (some ⟨g, 0, Option.none⟩) n c) (P ++ [z]) ((((W.setCell ⟨g, P.length * 4, Option.none⟩ (.int .i64 z.2.t)).setCell ⟨g, P.length * 4 + 1, Option.none⟩ (.slice z.1.D z.1.n z.1.c)).setCell ⟨g, P.length * 4 + 2, Option.none⟩ (.int .i64 z.2.count)).setCell ⟨g, P.length * 4 + 3, Option.none⟩ (.slice z.1.G z.1.gn z.1.gc)) := by
  have hn : n = (P ++ [a]).length := by
    rcases h.own.2 with ⟨e, _⟩ | ⟨g', cap, cur, e, _⟩
    · cases e
    · cases e; rfl
  have ho := h.own
  rw [← hn] at ho
  obtain ⟨o1, g1⟩ := ho.stored (P.length * 4) (.int .i64 z.2.t)
  obtain ⟨o2, g2⟩ := o1.stored (P.length * 4 + 1) (.slice z.1.D z.1.n z.1.c)
  obtain ⟨o3, g3⟩ := o2.stored (P.length * 4 + 2) (.int .i64 z.2.count)
  obtain ⟨o4, g4⟩ := o3.stored (P.length * 4 + 3) (.slice z.1.G z.1.gn z.1.gc)
  obtain ⟨W4, hW4⟩ : ∃ W4, W4 = ((((W.setCell ⟨g, P.length * 4, Option.none⟩ (.int .i64 z.2.t)).setCell ⟨g, P.length * 4 + 1, Option.none⟩ (.slice z.1.D z.1.n z.1.c)).setCell ⟨g, P.length * 4 + 2, Option.none⟩ (.int .i64 z.2.count)).setCell ⟨g, P.length * 4 + 3, Option.none⟩ (.slice z.1.G z.1.gn z.1.gc)) := ⟨_, rfl⟩
  have tr : ∀ {A B C : World}, A.grownBy B (some g) → B.grownBy C (some g) → A.grownBy C (some g) := fun h k => ⟨k.os.trans h.os, k.tape.trans h.tape, k.output.trans h.output, Nat.le_trans h.size k.size, fun i hi hne => (k.block i (Nat.lt_of_lt_of_le hi h.size) hne).trans (h.block i hi hne)⟩
  have hg : W.grownBy W4 (Value.slice (some ⟨g, 0, Option.none⟩) n c).ownBlock := by rw [hW4]; exact tr (tr (tr g1 g2) g3) g4
  rw [set_last] at o4
  rw [← hW4] at o4 ⊢
  clear hW4 o1 o2 o3 g1 g2 g3 g4
  have hk1 : KT w.heap.size W W4 := KT.row h.own hg h.bel.size (Nat.le_refl _) (by decide) (by decide)
  have hne : ∀ y, Owned w.heap.size W y → Owned w.heap.size W4 y := fun y k => ⟨k.d.kept hg (own_not_own k.d h.own (by decide)), k.g.kept hg (own_not_own k.g h.own (by decide)), k.sd, k.sg⟩
  refine ⟨h.b.grown hg (h.own.not_blk h.b (by decide)), h.r2.grown hg (h.own.not_blk h.r2 (by decide)), h.r3.grown hg (h.own.not_blk h.r3 (by decide)), h.lt, h.kt.trans hk1, h.bel.trans hk1.1, ?_, fun y hy => ?_⟩
  · have e : n = (P ++ [z]).length := by rw [hn]; simp
    rw [← e]; exact o4
  · rcases List.mem_append.1 hy with h1 | h1
    · exact (h.ys y (List.mem_append_left _ h1)).imp id (hne y)
    · rw [List.mem_singleton.1 h1]; exact .inr (hne z hz)
end
end Go.Proofs.Ytbccjkjibffbkaa
