/- A fresh struct of two slices beside an own row; an operation of a drawn region that is taken. -/
import Derived.Test.YtbecgknahhhfiaaRA
import Derived.Deep.RegionHeld3
namespace Go.Proofs.Ytbecgknahhhfiaa
open Go.RowKit
set_option linter.unusedSimpArgs false
set_option linter.unusedVariables false
section
variable {P : Program} {l : List Oper} {Q : Exit → Act → World → Prop} {md : Region.Mode} {S : World → Prop}
/-- An operation of a drawn region that is carried out, and looks at no memory but what S tells: it is taken next. -/
theorem take_want {i : Nat} {oi : Oper} {v : Value} {fuel : Nat} {listed : Array Bool} {a : Act} {w : World} (hi : l[i]? = some oi)
    (hs : Region.noSelect l.toArray = true) (hf : Region.free md l.toArray listed i = true) (hr : (Region.ready md l.toArray listed).contains i = true)
    (hQ : ∀ c a w, Q (.panic c) (a.put oi.dst v) w → Q (.panic c) a w) (hw : Region.wanted oi (yielded l.toArray a.tmps) = true) (hy : ∀ w, S w → (execOp a.eval oi).run P w = .ok (.value v) w) (hS : S w)
    (h : wpAnyH P md l.toArray Q S fuel (listed.setIfInBounds i true) (a.put oi.dst v) w) : wpAnyH P md l.toArray Q S (fuel + 1) listed a w :=
  wpAnyH_take (by simpa using hi) hs hf hr hQ (Or.inl ⟨hw, hy⟩) hS h
/-- One whose guard says no. -/
theorem take_skip {i : Nat} {oi : Oper} {fuel : Nat} {listed : Array Bool} {a : Act} {w : World} (hi : l[i]? = some oi)
    (hs : Region.noSelect l.toArray = true) (hf : Region.free md l.toArray listed i = true) (hr : (Region.ready md l.toArray listed).contains i = true)
    (hQ : ∀ c a w, Q (.panic c) (a.put oi.dst undef) w → Q (.panic c) a w) (hw : Region.wanted oi (yielded l.toArray a.tmps) = false) (hS : S w)
    (h : wpAnyH P md l.toArray Q S fuel (listed.setIfInBounds i true) (a.put oi.dst undef) w) : wpAnyH P md l.toArray Q S (fuel + 1) listed a w :=
  wpAnyH_take (by simpa using hi) hs hf hr hQ (Or.inr ⟨hw, rfl⟩) hS h
end

/-- A fresh block of two slices that stands apart from an own row. -/
def Alc (w : World) (B g : Nat) (v x y : Value) : Prop := B ≤ g ∧ w.cell? ⟨g, 0, none⟩ = some x ∧ w.cell? ⟨g, 1, none⟩ = some y ∧ v.ownBlock ≠ some g ∧ ∀ o, w.frozen? ⟨g, o, none⟩ = false
theorem own_new {w : World} {B : Nat} {e : TypeId} {v : Value} {n : Nat} {xs : List Value} (h : w.ownsRow B e 1 v n xs) : v.ownBlock ≠ some w.heap.size := by
  rcases h.2 with ⟨rfl, _⟩ | ⟨g, cap, cur, rfl, hb, hc, _⟩
  · simp [Value.ownBlock]
  · intro e
    simp [Value.ownBlock] at e
    subst e
    simp at hc
theorem Alc.mk' {w : World} {B : Nat} {v x y : Value} {t : TypeId} (hB : B ≤ w.heap.size) (hv : v.ownBlock ≠ some w.heap.size) : Alc (w.alloc (.cells #[x, y] t)) B w.heap.size v x y :=
  ⟨hB, cell_made (by simp) rfl, cell_made (by simp) rfl, hv, fun o => by simp⟩
theorem Alc.lt {w : World} {B g : Nat} {v x y : Value} (h : Alc w B g v x y) : g < w.heap.size := lt_of_cell h.2.1
theorem Alc.row {w w' : World} {B g : Nat} {v v' x y : Value} (h : Alc w B g v x y) (hg : w.grownBy w' v.ownBlock) (hd : v'.ownBlock = v.ownBlock ∨ v'.ownBlock = some w.heap.size) : Alc w' B g v' x y := by
  have hl := h.lt
  obtain ⟨h1, h2, h3, h4, h5⟩ := h
  refine ⟨h1, hg.cell h2 (Ne.symm h4), hg.cell h3 (Ne.symm h4), ?_, fun o => (hg.frozen_far _ hl (Ne.symm h4)).trans (h5 o)⟩
  rcases hd with e | e <;> rw [e]
  · exact h4
  · simp; omega
theorem Alc.new {w : World} {B g : Nat} {v x y : Value} (h : Alc w B g v x y) (o : Obj) (b c : Nat) : Alc (w.alloc o) B g (.slice (some ⟨w.heap.size, 0, none⟩) b c) x y := by
  have hl := h.lt
  obtain ⟨h1, h2, h3, h4, h5⟩ := h
  have hbp : Below w.heap.size w (w.alloc o) := bpush (Below.refl _ _) o
  refine ⟨h1, cell_on hbp h2, cell_on hbp h3, by simp [Value.ownBlock]; omega, fun q => ?_⟩
  exact (hbp.frozen (p := ⟨g, q, none⟩) hl).trans (h5 q)
theorem Row.setFar {w : World} {A : Option Addr} {n c g o : Nat} {xs : List Value} (h : Row w A xs) (hne : (Value.slice A n c).ownBlock ≠ some g) (u : Value) : Row (w.setCell ⟨g, o, none⟩ u) A xs := by
  rcases h with h | ⟨b, off, rfl, hc⟩
  · exact .inl h
  · refine .inr ⟨b, off, rfl, fun j v hv => ?_⟩
    rw [World.cell?_setCell_other w _ _ _ (fun e => hne (by have := congrArg Addr.block e; simp at this; simp [Value.ownBlock, this]))]
    exact hc j v hv
theorem Alc.fin {W : World} {B g n c : Nat} {A : Option Addr} {x y : Value} {xs : List Value} (h : Alc W B g (.slice A n c) x y) (hr : Row W A xs) (x' y' : Value) :
    Alc ((W.setCell ⟨g, 0, none⟩ x').setCell ⟨g, 1, none⟩ y') B g (.slice none 0 0) x' y' ∧ Row ((W.setCell ⟨g, 0, none⟩ x').setCell ⟨g, 1, none⟩ y') A xs := by
  obtain ⟨h1, h2, h3, h4, h5⟩ := h
  refine ⟨⟨h1, ?_, ?_, by simp [Value.ownBlock], fun o => ?_⟩, (hr.setFar h4 x').setFar h4 y'⟩
  · rw [World.cell?_setCell_other _ _ _ _ (fun e => by simpa using congrArg Addr.off e)]
    exact World.cell?_setCell_same' W _ _ (by rw [h2]; rfl)
  · exact World.cell?_setCell_same' _ _ _ (by rw [World.cell?_setCell_other _ _ _ _ (fun e => by simpa using congrArg Addr.off e), h3]; rfl)
  · rw [World.frozen?_setCell, World.frozen?_setCell]; exact h5 o
theorem own_cap {w : World} {B : Nat} {e : TypeId} {A : Option Addr} {n c : Nat} {xs : List Value} (h : w.ownsRow B e 1 (.slice A n c) n xs) : c ≤ maxLen := by
  rcases h.2 with ⟨h1, _⟩ | ⟨g, cap, cur, h1, _, _, _, hm, _⟩
  · cases h1; exact Nat.zero_le _
  · cases h1; exact hm
/-- A fresh block of an event, that stands apart from an own row. -/
def Al3 (w : World) (B g : Nat) (v x y z : Value) : Prop := B ≤ g ∧ w.cell? ⟨g, 0, none⟩ = some x ∧ w.cell? ⟨g, 1, none⟩ = some y ∧ w.cell? ⟨g, 2, none⟩ = some z ∧ v.ownBlock ≠ some g ∧ ∀ o, w.frozen? ⟨g, o, none⟩ = false
theorem Al3.lt {w : World} {B g : Nat} {v x y z : Value} (h : Al3 w B g v x y z) : g < w.heap.size := lt_of_cell h.2.1
theorem Al3.mk' {w : World} {B : Nat} {v x y z : Value} {t : TypeId} (hB : B ≤ w.heap.size) (hv : v.ownBlock ≠ some w.heap.size) : Al3 (w.alloc (.cells #[x, y, z] t)) B w.heap.size v x y z :=
  ⟨hB, cell_made (by simp) rfl, cell_made (by simp) rfl, cell_made (by simp) rfl, hv, fun o => by simp⟩
theorem Al3.row {w w' : World} {B g : Nat} {v v' x y z : Value} (h : Al3 w B g v x y z) (hg : w.grownBy w' v.ownBlock) (hd : v'.ownBlock = v.ownBlock ∨ v'.ownBlock = some w.heap.size) : Al3 w' B g v' x y z := by
  have hl := h.lt
  obtain ⟨h1, h2, h3, h3', h4, h5⟩ := h
  refine ⟨h1, hg.cell h2 (Ne.symm h4), hg.cell h3 (Ne.symm h4), hg.cell h3' (Ne.symm h4), ?_, fun o => (hg.frozen_far _ hl (Ne.symm h4)).trans (h5 o)⟩
  rcases hd with e | e <;> rw [e]
  · exact h4
  · simp; omega
theorem Al3.new {w : World} {B g : Nat} {v x y z : Value} (h : Al3 w B g v x y z) (o : Obj) (b c : Nat) : Al3 (w.alloc o) B g (.slice (some ⟨w.heap.size, 0, none⟩) b c) x y z := by
  have hl := h.lt
  obtain ⟨h1, h2, h3, h3', h4, h5⟩ := h
  have hbp : Below w.heap.size w (w.alloc o) := bpush (Below.refl _ _) o
  exact ⟨h1, cell_on hbp h2, cell_on hbp h3, cell_on hbp h3', by simp [Value.ownBlock]; omega, fun q => (hbp.frozen (p := ⟨g, q, none⟩) hl).trans (h5 q)⟩
theorem Al3.push {w : World} {B g : Nat} {v x y z : Value} (h : Al3 w B g v x y z) (o : Obj) : Al3 (w.alloc o) B g v x y z := by
  have hl := h.lt
  obtain ⟨h1, h2, h3, h3', h4, h5⟩ := h
  have hbp : Below w.heap.size w (w.alloc o) := bpush (Below.refl _ _) o
  exact ⟨h1, cell_on hbp h2, cell_on hbp h3, cell_on hbp h3', h4, fun q => (hbp.frozen (p := ⟨g, q, none⟩) hl).trans (h5 q)⟩
theorem Al3.set {w : World} {B g : Nat} {v x y z : Value} (h : Al3 w B g v x y z) (u : Value) : Al3 (w.setCell ⟨g, 1, none⟩ u) B g v x u z := by
  obtain ⟨h1, h2, h3, h3', h4, h5⟩ := h
  refine ⟨h1, ?_, World.cell?_setCell_same' w _ _ (by rw [h3]; rfl), ?_, h4, fun o => by rw [World.frozen?_setCell]; exact h5 o⟩
  · rw [World.cell?_setCell_other _ _ _ _ (fun e => by simpa using congrArg Addr.off e)]; exact h2
  · rw [World.cell?_setCell_other _ _ _ _ (fun e => by simpa using congrArg Addr.off e)]; exact h3'
theorem own_set {w : World} {B g o n : Nat} {v u : Value} {e : TypeId} {xs : List Value} (h : w.ownsRow B e 1 v n xs) (hv : v.ownBlock ≠ some g) : (w.setCell ⟨g, o, none⟩ u).ownsRow B e 1 v n xs :=
  h.kept (row := some g) ⟨rfl, rfl, rfl, by simp [World.setCell], fun i hi hne => Below.heap_setCell w _ _ i (fun e => hne (by rw [e]))⟩ (.inr (by
    intro e
    exact hv e))
theorem at_held {P : World → Prop} {w1 W : World} {B : Nat} (_h : Below B w1 W) (k : P W) : P W := k
end Go.Proofs.Ytbecgknahhhfiaa
