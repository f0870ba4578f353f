/- A row's box; the join of two rows, as a function. -/
import Derived.Test.YtmmeekmiildliaaGreatDoorRB
namespace Go.Proofs.YtmmeekmiildliaaGreatDoor
open Go.RowKit
set_option linter.unusedSimpArgs false
set_option linter.unusedVariables false
/-- A box of a row, that no other row lies in. -/
structure Bx4 (w : World) (g : Nat) (x0 x1 x2 x3 : Value) : Prop where
  c0 : w.cell? ⟨g, 0, none⟩ = some x0
  c1 : w.cell? ⟨g, 1, none⟩ = some x1
  c2 : w.cell? ⟨g, 2, none⟩ = some x2
  c3 : w.cell? ⟨g, 3, none⟩ = some x3
  fr : ∀ o, w.frozen? ⟨g, o, none⟩ = false
theorem Bx4.made {w : World} {x0 x1 x2 x3 : Value} {t : TypeId} : Bx4 (w.alloc (.cells #[x0, x1, x2, x3] t)) w.heap.size x0 x1 x2 x3 :=
  ⟨cell_made rfl rfl, cell_made rfl rfl, cell_made rfl rfl, cell_made rfl rfl, fun o => by simp⟩
theorem Bx4.lt {w : World} {g : Nat} {x0 x1 x2 x3 : Value} (h : Bx4 w g x0 x1 x2 x3) : g < w.heap.size := lt_of_cell h.c0
theorem Bx4.keep {w w' : World} {g : Nat} {x0 x1 x2 x3 : Value} (h : Bx4 w g x0 x1 x2 x3) (hb : Below w.heap.size w w') : Bx4 w' g x0 x1 x2 x3 :=
  ⟨cell_on hb h.c0, cell_on hb h.c1, cell_on hb h.c2, cell_on hb h.c3, fun o => (hb.frozen (p := ⟨g, o, none⟩) h.lt).trans (h.fr o)⟩
theorem Bx4.grown {w w' : World} {g : Nat} {v x0 x1 x2 x3 : Value} (h : Bx4 w g x0 x1 x2 x3) (hg : w.grownBy w' v.ownBlock) (hv : v.ownBlock ≠ some g) : Bx4 w' g x0 x1 x2 x3 :=
  ⟨hg.cell h.c0 (Ne.symm hv), hg.cell h.c1 (Ne.symm hv), hg.cell h.c2 (Ne.symm hv), hg.cell h.c3 (Ne.symm hv), fun o => (hg.frozen_far _ h.lt (Ne.symm hv)).trans (h.fr o)⟩
theorem Bx4.set3 {w : World} {g : Nat} {x0 x1 x2 x3 : Value} (h : Bx4 w g x0 x1 x2 x3) (y : Value) : Bx4 (w.setCell ⟨g, 3, none⟩ y) g x0 x1 x2 y := by
  have e : ∀ o, o ≠ 3 → (w.setCell ⟨g, 3, none⟩ y).cell? ⟨g, o, none⟩ = w.cell? ⟨g, o, none⟩ := fun o ho => World.cell?_setCell_other w _ _ _ (fun e => ho (by simpa using (congrArg Addr.off e).symm))
  exact ⟨(e 0 (by decide)).trans h.c0, (e 1 (by decide)).trans h.c1, (e 2 (by decide)).trans h.c2, World.cell?_setCell_same' w _ _ (by rw [h.c3]; rfl), fun o => by rw [World.frozen?_setCell]; exact h.fr o⟩
theorem Bx4.all {w : World} {g : Nat} {x0 x1 x2 x3 : Value} (h : Bx4 w g x0 x1 x2 x3) (y0 y1 y2 y3 : Value) : Bx4 ((((w.setCell ⟨g, 0, none⟩ y0).setCell ⟨g, 1, none⟩ y1).setCell ⟨g, 2, none⟩ y2).setCell ⟨g, 3, none⟩ y3) g y0 y1 y2 y3 := by
  have far : ∀ (W : World) (a b : Nat) (u : Value), a ≠ b → (W.setCell ⟨g, a, none⟩ u).cell? ⟨g, b, none⟩ = W.cell? ⟨g, b, none⟩ := fun W a b u hab => World.cell?_setCell_other W _ _ _ (fun e => hab (by simpa using congrArg Addr.off e))
  refine ⟨?_, ?_, ?_, ?_, fun o => by simp only [World.frozen?_setCell]; exact h.fr o⟩
  · rw [far _ 3 0 _ (by decide), far _ 2 0 _ (by decide), far _ 1 0 _ (by decide)]; exact World.cell?_setCell_same' w _ _ (by rw [h.c0]; rfl)
  · rw [far _ 3 1 _ (by decide), far _ 2 1 _ (by decide)]; exact World.cell?_setCell_same' _ _ _ (by rw [far _ 0 1 _ (by decide), h.c1]; rfl)
  · rw [far _ 3 2 _ (by decide)]; exact World.cell?_setCell_same' _ _ _ (by rw [far _ 1 2 _ (by decide), far _ 0 2 _ (by decide), h.c2]; rfl)
  · exact World.cell?_setCell_same' _ _ _ (by rw [far _ 2 3 _ (by decide), far _ 1 3 _ (by decide), far _ 0 3 _ (by decide), h.c3]; rfl)
theorem own_apart {w : World} {B g size : Nat} {e : TypeId} {v : Value} {n : Nat} {xs : List Value} (h : w.ownsRow B e size v n xs) (hg : g < B) : v.ownBlock ≠ some g := by
  rcases h.2 with ⟨rfl, _⟩ | ⟨g', cap, cur, rfl, hb, _⟩
  · simp [Value.ownBlock]
  · simp [Value.ownBlock]; omega
theorem own_fresh {w : World} {B size : Nat} {e : TypeId} {v : Value} {n : Nat} {xs : List Value} (h : w.ownsRow B e size v n xs) : v.ownBlock ≠ some w.heap.size := by
  intro e
  have := h.lt _ e
  omega
theorem own_set' {w : World} {B g o n size : Nat} {v u : Value} {e : TypeId} {xs : List Value} (h : w.ownsRow B e size v n xs) (hv : v.ownBlock ≠ some g) : (w.setCell ⟨g, o, none⟩ u).ownsRow B e size v n xs :=
  h.kept (row := some g) ⟨rfl, rfl, rfl, by simp [World.setCell], fun i hi hne => Below.heap_setCell w _ _ i (fun e => hne (by rw [e]))⟩ (.inr hv)
def toA3 (a : Ag) : A3 := ⟨a.1, a.2.1, a.2.2⟩
def ofA3 (a : A3) : Ag := (a.s, a.mn, a.mx)
/-- The aggs of a join, or the first error. -/
def joinG : List Ag → List Ag → List Ag × Int
  | a :: L, b :: M => if (joinA (toA3 a) (toA3 b)).2 = 0 then (if (joinG L M).2 = 0 then (ofA3 (joinA (toA3 a) (toA3 b)).1 :: (joinG L M).1, 0) else ([], (joinG L M).2)) else ([], (joinA (toA3 a) (toA3 b)).2)
  | _, _ => ([], 0)
/-- The join of two rows, or the error. -/
def joinR (a b : RV) : RV × Int :=
  if cmpV a b = 0 ∧ a.aggs.length = b.aggs.length then
    (if 1048576 < a.count + b.count then (RV.zero, 121)
     else if (joinG a.aggs b.aggs).2 = 0 then (⟨a.t, a.dims, a.count + b.count, (joinG a.aggs b.aggs).1⟩, 0) else (RV.zero, (joinG a.aggs b.aggs).2))
  else (RV.zero, 131)
theorem joinG_len : ∀ L M : List Ag, L.length = M.length → (joinG L M).2 = 0 → (joinG L M).1.length = L.length := by
  intro L
  induction L with
  | nil => intro M _ _; cases M <;> rfl
  | cons a L ih =>
    intro M hl h
    cases M with
    | nil => simp at hl
    | cons b M =>
      rw [joinG] at h ⊢
      by_cases e1 : (joinA (toA3 a) (toA3 b)).2 = 0
      · rw [if_pos e1] at h ⊢
        by_cases e2 : (joinG L M).2 = 0
        · rw [if_pos e2]; simp [ih M (by simpa using hl) e2]
        · rw [if_neg e2] at h; exact absurd h e2
      · rw [if_neg e1] at h; exact absurd h e1
/-- What is done, and what is yet to be joined. -/
def JoinSt (X Y P : List Ag) (k : Nat) : Prop := ∀ R e, joinG (X.drop k) (Y.drop k) = (R, e) → joinG X Y = if e = 0 then (P ++ R, 0) else ([], e)
theorem JoinSt.start (X Y : List Ag) : JoinSt X Y [] 0 := by
  intro R e h
  rw [List.drop_zero, List.drop_zero] at h
  have h2 : e ≠ 0 → R = [] := by
    intro he
    cases X with
    | nil => rw [joinG] at h; cases h; rfl; simp
    | cons a X => cases Y with
      | nil => rw [joinG] at h; cases h; rfl; simp
      | cons b Y =>
        rw [joinG] at h
        by_cases e1 : (joinA (toA3 a) (toA3 b)).2 = 0
        · rw [if_pos e1] at h
          by_cases e2 : (joinG X Y).2 = 0
          · rw [if_pos e2] at h; cases h; exact absurd rfl he
          · rw [if_neg e2] at h; cases h; rfl
        · rw [if_neg e1] at h; cases h; rfl
  rw [h]
  by_cases he : e = 0
  · rw [if_pos he, he]; rfl
  · rw [if_neg he, h2 he]
theorem JoinSt.step {X Y P : List Ag} {k : Nat} (h : JoinSt X Y P k) (hX : k < X.length) (hY : k < Y.length) {a : A3} (ha : joinA (toA3 X[k]) (toA3 Y[k]) = (a, 0)) : JoinSt X Y (P ++ [ofA3 a]) (k + 1) := by
  intro R e hr
  have := h (if e = 0 then ofA3 a :: R else []) (if e = 0 then 0 else e) (by
    rw [List.drop_eq_getElem_cons hX, List.drop_eq_getElem_cons hY, joinG, ha, if_pos rfl, hr]
    by_cases he : e = 0
    · simp [he]
    · simp [he])
  by_cases he : e = 0
  · simpa [he] using this
  · simpa [he] using this
theorem JoinSt.bad {X Y P : List Ag} {k : Nat} (h : JoinSt X Y P k) (hX : k < X.length) (hY : k < Y.length) {a : A3} {e : Int} (he : e ≠ 0) (ha : joinA (toA3 X[k]) (toA3 Y[k]) = (a, e)) : joinG X Y = ([], e) := by
  have := h [] e (by rw [List.drop_eq_getElem_cons hX, List.drop_eq_getElem_cons hY, joinG, ha, if_neg he])
  simpa [he] using this
theorem JoinSt.fin {X Y P : List Ag} (h : JoinSt X Y P X.length) (hl : X.length = Y.length) : joinG X Y = (P, 0) := by
  have := h [] 0 (by rw [List.drop_length, joinG]; simp)
  simpa using this
end Go.Proofs.YtmmeekmiildliaaGreatDoor
