/- The stretches of one key, one behind the other. What a sorted list of rows folds to. Fold of few rows. -/
import Derived.Test.YtbccjkjibffbkaaRI
import Derived.Test.YtbccjkjibffbkaaRD
import Derived.Laws.EntriesVeiled
namespace Go.Proofs.Ytbccjkjibffbkaa
open Go.RowKit Go.Shelf
set_option linter.unusedSimpArgs false
set_option linter.unusedVariables false
attribute [local go_sem] Oper.semAt_some
theorem slice_rows (b off n c lo hi : Nat) (h1 : lo < hi) (h2 : hi ≤ n) (h3 : n ≤ c) (W : World) : Sem.run Try.prog (Instr.slice 28 (.slice (some ⟨b, off, none⟩) n c) (some (.int .i64 (lo : Int))) (some (.int .i64 (hi : Int))) none) W = .ok (.slice (some ⟨b, off + lo * 4, none⟩) (hi - lo) (c - lo)) W := by
  have hs : ∀ W, Sem.run Try.prog (Go.sizeOf (Try.prog.elem 28)) W = .ok 4 W := fun _ => by kernel_rfl
  have e : Try.prog.elem 28 = 39 := by kernel_rfl
  rw [run_slice_lh W 28 (some ⟨b, off, none⟩) n c (by rw [e]; exact Try.underlying28) .i64 .i64 lo hi (by omega) (by omega) (by omega), hs]
  have e2 : (⟨b, off, none⟩ : Addr).add (lo * 4) = ⟨b, off + lo * 4, none⟩ := by
    unfold Addr.add; split
    · rename_i h; rw [h]; rfl
    · rfl
  simp only [Result.andThen, sliced, Int.toNat_natCast, Option.map_some, e2]
  rw [if_neg (by omega)]
/-- A stretch of one key, that no row behind it belongs to. -/
def Stretch (Z : List RZ) (b e : Nat) : Prop := b < e ∧ e ≤ Z.length ∧ (∀ i (h : i + 1 < Z.length), b ≤ i → i + 1 < e → cmpV Z[i].2 Z[i + 1].2 = 0) ∧ (∀ (h : e < Z.length), cmpV (Z[e - 1]'(by omega)).2 Z[e].2 ≠ 0)
end Go.Proofs.Ytbccjkjibffbkaa
namespace Go.Proofs.Ytbccjkjibffbkaa
open Go.RowKit
set_option linter.unusedSimpArgs false
set_option linter.unusedVariables false
/-- One row joined with others, one behind the other, or the first error. -/
def joinAll : RV → List RV → RV × Int
  | r, [] => (r, 0)
  | r, b :: L => if (joinR r b).2 = 0 then joinAll (joinR r b).1 L else (RV.zero, (joinR r b).2)
def foldF : Nat → List RV → List RV × Int
  | 0, _ => ([], 0)
  | _ + 1, [] => ([], 0)
  | n + 1, a :: L =>
    if (joinAll a (L.takeWhile (keyV a))).2 = 0 then
      (if (foldF n (L.dropWhile (keyV a))).2 = 0 then ((joinAll a (L.takeWhile (keyV a))).1 :: (foldF n (L.dropWhile (keyV a))).1, 0) else ([], (foldF n (L.dropWhile (keyV a))).2))
    else ([], (joinAll a (L.takeWhile (keyV a))).2)
/-- A sorted list, folded. -/
def foldL (K : List RV) : List RV × Int := foldF K.length K
theorem dropWhile_len {α : Type} (p : α → Bool) (L : List α) : (L.dropWhile p).length ≤ L.length := (List.dropWhile_sublist p).length_le
theorem foldF_fuel : ∀ (n m : Nat) (K : List RV), K.length ≤ n → K.length ≤ m → foldF n K = foldF m K := by
  intro n
  induction n with
  | zero =>
    intro m K h1 h2
    obtain rfl : K = [] := List.eq_nil_of_length_eq_zero (by omega)
    cases m <;> rfl
  | succ n ih =>
    intro m K h1 h2
    cases K with
    | nil => cases m <;> rfl
    | cons a L =>
      cases m with
      | zero => simp at h2
      | succ m =>
        have hl := dropWhile_len (keyV a) L
        rw [foldF, foldF, ih m (L.dropWhile (keyV a)) (by simp at h1; omega) (by simp at h2; omega)]
theorem foldL_cons (a : RV) (L : List RV) : foldL (a :: L) = if (joinAll a (L.takeWhile (keyV a))).2 = 0 then
      (if (foldL (L.dropWhile (keyV a))).2 = 0 then ((joinAll a (L.takeWhile (keyV a))).1 :: (foldL (L.dropWhile (keyV a))).1, 0) else ([], (foldL (L.dropWhile (keyV a))).2))
    else ([], (joinAll a (L.takeWhile (keyV a))).2) := by
  unfold foldL
  rw [List.length_cons, foldF, foldF_fuel L.length (L.dropWhile (keyV a)).length (L.dropWhile (keyV a)) (dropWhile_len _ _) (Nat.le_refl _)]
theorem foldL_err (K : List RV) (h : (foldL K).2 ≠ 0) : (foldL K).1 = [] := by
  cases K with
  | nil => rfl
  | cons a L =>
    rw [foldL_cons] at h ⊢
    by_cases e1 : (joinAll a (L.takeWhile (keyV a))).2 = 0
    · rw [if_pos e1] at h ⊢
      by_cases e2 : (foldL (L.dropWhile (keyV a))).2 = 0
      · rw [if_pos e2] at h; exact absurd rfl h
      · rw [if_neg e2]
    · rw [if_neg e1]
/-- What is folded, and what is yet to be. -/
def FoldSt (K O : List RV) (b : Nat) : Prop := ∀ R e, foldL (K.drop b) = (R, e) → foldL K = if e = 0 then (O ++ R, 0) else ([], e)
theorem FoldSt.start (K : List RV) : FoldSt K [] 0 := by
  intro R e h
  rw [List.drop_zero] at h
  have h2 := foldL_err K
  rw [h] at h2 ⊢
  by_cases he : e = 0
  · rw [if_pos he, he]; rfl
  · rw [if_neg he]; rw [show R = [] from h2 he]
theorem take_drop_while {α : Type} (p : α → Bool) : ∀ (L : List α) (m : Nat), m ≤ L.length → (∀ i (h : i < L.length), i < m → p L[i] = true) → (∀ h : m < L.length, p L[m] = false) → L.takeWhile p = L.take m ∧ L.dropWhile p = L.drop m := by
  intro L
  induction L with
  | nil => intro m hm _ _; simp at hm; subst hm; exact ⟨rfl, rfl⟩
  | cons a L ih =>
    intro m hm h1 h2
    cases m with
    | zero =>
      have := h2 (by simp)
      simp only [List.getElem_cons_zero] at this
      rw [List.takeWhile_cons, List.dropWhile_cons, this]; exact ⟨rfl, rfl⟩
    | succ m =>
      have ha := h1 0 (by simp) (by omega)
      simp only [List.getElem_cons_zero] at ha
      have := ih m (by simpa using hm) (fun i h hi => by have := h1 (i + 1) (by simpa using h) (by omega); simpa using this) (fun h => by have := h2 (by simpa using h); simpa using this)
      rw [List.takeWhile_cons, List.dropWhile_cons, ha]
      simp [this.1, this.2]
theorem keyV_true {a b : RV} : keyV a b = true ↔ cmpV a b = 0 := by simp [keyV]
/-- A stretch of one key. -/
structure StK (K : List RV) (b e : Nat) : Prop where
  lt : b < e
  le : e ≤ K.length
  one : ∀ i (h : i + 1 < K.length), b ≤ i → i + 1 < e → cmpV K[i] K[i + 1] = 0
  out : ∀ h : e < K.length, cmpV (K[e - 1]'(by omega)) K[e] ≠ 0
theorem StK.all {K : List RV} {b e : Nat} (h : StK K b e) : ∀ (j : Nat) (hj : b + j < K.length), b + j < e → cmpV (K[b]'(by omega)) K[b + j] = 0 := by
  intro j
  induction j with
  | zero => intro hj _; exact cmpV_self _
  | succ j ih =>
    intro hj he
    have h1 := ih (by omega) (by omega)
    have h2 := h.one (b + j) (by omega) (by omega) (by omega)
    rw [cmpV_left h1]
    exact h2
theorem StK.cut {K : List RV} {b e : Nat} (h : StK K b e) : (K.drop (b + 1)).takeWhile (keyV (K[b]'(by have := h.lt; have := h.le; omega))) = (K.drop (b + 1)).take (e - (b + 1)) ∧ (K.drop (b + 1)).dropWhile (keyV (K[b]'(by have := h.lt; have := h.le; omega))) = K.drop e := by
  have hlt := h.lt
  have hle := h.le
  have hh := take_drop_while (keyV (K[b]'(by omega))) (K.drop (b + 1)) (e - (b + 1)) (by rw [List.length_drop]; omega) (fun i hi him => ?_) (fun hm => ?_)
  · refine ⟨hh.1, hh.2.trans ?_⟩
    rw [List.drop_drop]; congr 1; omega
  · rw [List.length_drop] at hi
    rw [List.getElem_drop, keyV_true]
    have := h.all (i + 1) (by omega) (by omega)
    simpa [Nat.add_assoc, Nat.add_comm 1 i] using this
  · rw [List.length_drop] at hm
    rw [List.getElem_drop]
    have he : e < K.length := by omega
    have h1 := h.all (e - 1 - b) (by omega) (by omega)
    have h2 := h.out he
    have e1 : b + (e - 1 - b) = e - 1 := by omega
    have e2 : b + 1 + (e - (b + 1)) = e := by omega
    simp only [e1] at h1
    simp only [e2]
    rw [Bool.eq_false_iff, ne_eq, keyV_true]
    intro h3
    rw [cmpV_left h1] at h3
    exact h2 h3
theorem FoldSt.next {K O : List RV} {b e : Nat} (h : FoldSt K O b) (hs : StK K b e) {r : RV} (hj : joinAll (K[b]'(by have := hs.lt; have := hs.le; omega)) ((K.drop (b + 1)).take (e - (b + 1))) = (r, 0)) : FoldSt K (O ++ [r]) e := by
  intro R x hr
  have hlt := hs.lt
  have hle := hs.le
  have hc := hs.cut
  have := h (if x = 0 then r :: R else []) x (by
    rw [List.drop_eq_getElem_cons (by omega), foldL_cons, hc.1, hc.2, hj, hr, if_pos rfl]
    by_cases hx : x = 0
    · simp [hx]
    · simp [hx])
  by_cases hx : x = 0
  · simpa [hx] using this
  · simpa [hx] using this
theorem FoldSt.bad {K O : List RV} {b e : Nat} (h : FoldSt K O b) (hs : StK K b e) {r : RV} {x : Int} (hx : x ≠ 0) (hj : joinAll (K[b]'(by have := hs.lt; have := hs.le; omega)) ((K.drop (b + 1)).take (e - (b + 1))) = (r, x)) : foldL K = ([], x) := by
  have hlt := hs.lt
  have hle := hs.le
  have hc := hs.cut
  have := h [] x (by rw [List.drop_eq_getElem_cons (by omega), foldL_cons, hc.1, hj, if_neg hx])
  simpa [hx] using this
theorem FoldSt.fin {K O : List RV} (h : FoldSt K O K.length) : foldL K = (O, 0) := by
  have := h [] 0 (by rw [List.drop_length]; rfl)
  simpa using this
/-- What is joined, and what is yet to be. -/
def AllSt (a : RV) (g : List RV) (r : RV) (k : Nat) : Prop := joinAll r (g.drop k) = joinAll a g
theorem AllSt.start (a : RV) (g : List RV) : AllSt a g a 0 := by unfold AllSt; rw [List.drop_zero]
theorem AllSt.next {a r : RV} {g : List RV} {k : Nat} (h : AllSt a g r k) (hk : k < g.length) {z : RV} (hz : joinR r g[k] = (z, 0)) : AllSt a g z (k + 1) := by
  unfold AllSt at *
  rw [List.drop_eq_getElem_cons hk, joinAll, hz, if_pos rfl] at h
  exact h
theorem AllSt.bad {a r : RV} {g : List RV} {k : Nat} (h : AllSt a g r k) (hk : k < g.length) {z : RV} {x : Int} (hx : x ≠ 0) (hz : joinR r g[k] = (z, x)) : joinAll a g = (RV.zero, x) := by
  unfold AllSt at h
  rw [List.drop_eq_getElem_cons hk, joinAll, hz, if_neg hx] at h
  exact h.symm
theorem AllSt.fin {a r : RV} {g : List RV} (h : AllSt a g r g.length) : joinAll a g = (r, 0) := by
  unfold AllSt at h
  rw [List.drop_length, joinAll] at h
  exact h.symm
theorem joinR_count {a b : RV} (h : (joinR a b).2 = 0) (ha : 0 ≤ a.count) (hb : 0 ≤ b.count) : 0 ≤ (joinR a b).1.count ∧ (joinR a b).1.count ≤ 1048576 := by
  unfold joinR at h ⊢
  by_cases h1 : cmpV a b = 0 ∧ a.aggs.length = b.aggs.length
  · rw [if_pos h1] at h ⊢
    by_cases h2 : 1048576 < a.count + b.count
    · rw [if_pos h2]; exact ⟨Int.le_refl _, by show (0 : Int) ≤ 1048576; decide⟩
    · rw [if_neg h2] at h ⊢
      by_cases h3 : (joinG a.aggs b.aggs).2 = 0
      · rw [if_pos h3]; exact ⟨by show 0 ≤ a.count + b.count; omega, by show a.count + b.count ≤ _; omega⟩
      · rw [if_neg h3]; exact ⟨Int.le_refl _, by show (0 : Int) ≤ 1048576; decide⟩
  · rw [if_neg h1]; exact ⟨Int.le_refl _, by show (0 : Int) ≤ 1048576; decide⟩
end Go.Proofs.Ytbccjkjibffbkaa
namespace Go.Proofs.Ytbccjkjibffbkaa
open Go.RowKit Go.Shelf
set_option linter.unusedSimpArgs false
set_option linter.unusedVariables false
attribute [local go_sem] Oper.semAt_some
theorem own_sliceR {B : Nat} {w : World} {v : Value} {n : Nat} {L : List RZ} (h : w.ownsRow B 39 4 v n (cellsR L)) : n = L.length ∧ ∃ A c, v = .slice A n c ∧ Row w A (cellsR L) ∧ n ≤ c ∧ c ≤ maxLen ∧ (A = none → c = 0) := by
  have hn : n = L.length := by have := h.1; rw [cellsR_length] at this; omega
  refine ⟨hn, ?_⟩
  rcases h.2 with ⟨rfl, h0⟩ | ⟨g, cap, cur, rfl, _, hc, h1, h2, h3, h4⟩
  · have hz0 : L = [] := List.length_eq_zero_iff.1 (by omega)
    exact ⟨none, 0, by rw [h0], .inl (by rw [hz0]; rfl), by omega, Nat.zero_le _, fun _ => rfl⟩
  · refine ⟨_, cap, rfl, ?_, h1, h2, fun h => by cases h⟩
    refine .inr ⟨g, 0, rfl, fun i u hu => ?_⟩
    rw [Nat.zero_add]
    have hcc : w.cell? ⟨g, i, none⟩ = cur[i]? := by simp [World.cell?, hc]
    rw [hcc, ← hu, ← h4, List.getElem?_take, Array.getElem?_toList, if_pos]
    rcases Nat.lt_or_ge i (n * 4) with h | h
    · exact h
    · rw [List.getElem?_eq_none (by rw [cellsR_length]; omega)] at hu; cases hu
theorem slice_tail (b off n c : Nat) (h1 : 1 ≤ n) (W : World) : Sem.run Try.prog (Instr.slice 28 (.slice (some ⟨b, off, none⟩) n c) (some (.int .i64 1)) none none) W = .ok (.slice (some ⟨b, if c = 1 then off else off + 4, none⟩) (n - 1) (c - 1)) W := by
  have hs : ∀ W, Sem.run Try.prog (Go.sizeOf (Try.prog.elem 28)) W = .ok 4 W := fun _ => by kernel_rfl
  have e : Try.prog.elem 28 = 39 := by kernel_rfl
  rw [run_slice_l W 28 (some ⟨b, off, none⟩) n c (by rw [e]; exact Try.underlying28) .i64 1 (by omega) (by omega), hs]
  have e2 : (⟨b, off, none⟩ : Addr).add 4 = ⟨b, off + 4, none⟩ := rfl
  have e3 : (1 : Int).toNat * 4 = 4 := rfl
  simp only [Result.andThen, sliced, Option.map_some, e3, e2]
  have e4 : (1 : Int).toNat = 1 := rfl
  rw [e4]
  split <;> rfl
theorem Stretch.stK {Z : List RZ} {b e : Nat} (h : Stretch Z b e) : StK (Z.map Prod.snd) b e := by
  obtain ⟨h1, h2, h3, h4⟩ := h
  exact ⟨h1, by simpa using h2, fun i hi hb he => by simpa using h3 i (by simpa using hi) hb he, fun he => by simpa using h4 (by simpa using he)⟩
theorem Owned.setB {B g o : Nat} {W : World} {z : RZ} {t : TypeId} {cs : Array Value} {u : Value} (h : Owned B W z) (hb : Blk W g t cs) (h9 : t ≠ 9) (h51 : t ≠ 72) : Owned B (W.setCell ⟨g, o, none⟩ u) z :=
  ⟨own_set' h.d (h.d.not_blk hb h9), own_set' h.g (h.g.not_blk hb h51), h.sd, h.sg⟩
/-- What Fold keeps between two rounds. -/
structure Fd (w W3 : World) (ob : Nat) (v : Value) (Y : List RZ) (W : World) : Prop where
  b : Blk W ob 28 #[v]
  near : Near ob (ob + 2) W3 W
  own : W.ownsRow (ob + 2) 39 4 v Y.length (cellsR Y)
  ys : ∀ y ∈ Y, Good w y ∨ Owned (ob + 2) W y
section
variable {w W3 W W' : World} {ob : Nat} {v : Value} {Y : List RZ}
theorem Fd.none (h : Fd w W3 ob v Y W) (hs : ob + 2 ≤ W.heap.size) (hg : W.grownBy W' none) : Fd w W3 ob v Y W' :=
  ⟨h.b.grown hg (by simp), h.near.trans ⟨hg.os, hg.tape, hg.output, hg.size, fun i hi _ => hg.block i (by omega) (by simp)⟩, h.own.kept hg (by cases v.ownBlock <;> simp),
    fun y hy => (h.ys y hy).imp id fun k => k.grown hg (fun g e => by cases e)⟩
theorem Fd.loop {l : Nat} {r : Loop} (h : Fd w W3 ob v Y W) (hl : W.heap[l]? = some (.loop r)) (hlw : ob + 2 ≤ l) (o : Obj) : Fd w W3 ob v Y (W.putObj l o) := by
  have hg := grownBy_putObj' W l o
  exact ⟨h.b.grown hg (fun e => loop_not_blk hl h.b (Option.some.inj e)), h.near.trans ⟨hg.os, hg.tape, hg.output, hg.size, fun i hi _ => hg.block i (by have := lt_of_heap hl; omega) (fun e => by have := Option.some.inj e; omega)⟩,
    h.own.kept hg (.inr (own_not_loop h.own hl)),
    fun y hy => (h.ys y hy).imp id fun k => k.grown hg (fun g e => by cases e; exact ⟨own_not_loop k.d hl, own_not_loop k.g hl⟩)⟩
theorem Fd.append {v' : Value} {z : RZ} (h : Fd w W3 ob v Y W) (hs : ob + 2 ≤ W.heap.size) (hg : W.grownBy W' v.ownBlock) (ho : W'.ownsRow (ob + 2) 39 4 v' (Y.length + 1) (cellsR (Y ++ [z]))) (hz : Good w z ∨ Owned (ob + 2) W z) : Fd w W3 ob v' (Y ++ [z]) (W'.setCell ⟨ob, 0, Option.none⟩ v') := by
  have hb' := h.b.grown hg (h.own.not_blk h.b (by decide))
  have hne : ∀ y, Good w y ∨ Owned (ob + 2) W y → Good w y ∨ Owned (ob + 2) W' y := fun y hy => hy.imp id fun k => ⟨k.d.kept hg (own_not_own k.d h.own (by decide)), k.g.kept hg (own_not_own k.g h.own (by decide)), k.sd, k.sg⟩
  have hgs : W'.grownBy (W'.setCell ⟨ob, 0, Option.none⟩ v') (some ob) := ⟨rfl, rfl, rfl, by simp [World.setCell], fun i hi hne => Below.heap_setCell W' _ _ i (fun e => hne (by rw [e]))⟩
  refine ⟨by have := hb'.set_ 0 v'; simpa using this, ?_, ?_, ?_⟩
  · refine (h.near.trans ⟨hg.os, hg.tape, hg.output, hg.size, fun i hi _ => hg.block i (by omega) (fun e => ?_)⟩).set (.inl rfl) v'
    have := (h.own.lt i e.symm).1
    omega
  · have := ho.kept hgs (.inr (ho.not_blk hb' (by decide)))
    rw [List.length_append]; exact this
  · intro y hy
    have hy' : Good w y ∨ Owned (ob + 2) W' y := by
      rcases List.mem_append.1 hy with h1 | h1
      · exact hne y (h.ys y h1)
      · rw [List.mem_singleton.1 h1]; exact hne z hz
    exact hy'.imp id fun k => k.grown hgs (fun g e => by cases e; exact ⟨k.d.not_blk hb' (by decide), k.g.not_blk hb' (by decide)⟩)
end
theorem Blk.below {w w' : World} {g B : Nat} {t : TypeId} {cs : Array Value} (h : Blk w g t cs) (hb : Below B w w') (hg : g < B) : Blk w' g t cs := (hb.block g hg).trans h
def FoldPost (w : World) (Z : List RZ) (e : Ending) (w' : World) : Prop := ∃ v Y x K', e = .returned (.tuple #[v, .int .i64 x]) ∧ SortsTo (Z.map Prod.snd) K' ∧ foldL K' = (Y.map Prod.snd, x) ∧ w'.ownsRow w.heap.size 39 4 v Y.length (cellsR Y) ∧ (∀ y ∈ Y, Owned w.heap.size w' y) ∧ Below w.heap.size w w'
end Go.Proofs.Ytbccjkjibffbkaa
