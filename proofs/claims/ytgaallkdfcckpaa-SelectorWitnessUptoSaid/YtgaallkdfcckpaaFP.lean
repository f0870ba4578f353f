/- The closures that write one boolean: 38, 40, 42, 43. -/
import Derived.Test.YtgaallkdfcckpaaFO
import Derived.Test.YtgaallkdfcckpaaVH
namespace Go.Proofs.Ytgaallkdfcckpaa
open Go.RowKit Go.Maps Go.Lib Go.Shelf
set_option linter.unusedSimpArgs false
set_option linter.unusedVariables false
/-- What stays but in some blocks. -/
structure Fr (S : Nat → Prop) (w w' : World) : Prop where
  os : w'.os = w.os
  tape : w'.tape = w.tape
  output : w'.output = w.output
  size : w.heap.size ≤ w'.heap.size
  block : ∀ i, i < w.heap.size → ¬ S i → w'.heap[i]? = w.heap[i]?
theorem Fr.refl (S : Nat → Prop) (w : World) : Fr S w w := ⟨rfl, rfl, rfl, Nat.le_refl _, fun _ _ _ => rfl⟩
theorem Fr.trans {S : Nat → Prop} {w w1 w2 : World} (h : Fr S w w1) (k : Fr S w1 w2) : Fr S w w2 :=
  ⟨k.os.trans h.os, k.tape.trans h.tape, k.output.trans h.output, Nat.le_trans h.size k.size, fun i hi hs => (k.block i (Nat.lt_of_lt_of_le hi h.size) hs).trans (h.block i hi hs)⟩
theorem Fr.of_below {w w' : World} {S : Nat → Prop} (h : Below w.heap.size w w') : Fr S w w' := ⟨h.os, h.tape, h.output, h.size, fun i hi _ => h.block i hi⟩
theorem Fr.below {w w' : World} {S : Nat → Prop} {B : Nat} (h : Fr S w w') (hb : B ≤ w.heap.size) (hs : ∀ i, S i → B ≤ i) : Below B w w' := ⟨h.os, h.tape, h.output, h.size, fun i hi => h.block i (by omega) fun k => by have := hs i k; omega⟩
theorem Fr.set_ {w w' : World} {S : Nat → Prop} (h : Fr S w w') {a o : Nat} (hs : S a ∨ w.heap.size ≤ a) (v : Value) : Fr S w (w'.setCell ⟨a, o, none⟩ v) :=
  ⟨h.os, h.tape, h.output, by simpa [World.setCell] using h.size, fun i hi k => by
    rw [← h.block i hi k]
    refine Below.heap_setCell w' ⟨a, o, none⟩ v i ?_
    intro e; simp at e; subst e
    rcases hs with hs | hs
    · exact k hs
    · omega⟩
theorem Fr.blk {w w' : World} {S : Nat → Prop} (h : Fr S w w') {g : Nat} {t : TypeId} {cs : Array Value} (hb : Blk w g t cs) (hs : ¬ S g) : Blk w' g t cs := (h.block g hb.lt hs).trans hb
theorem Blk.set_ {w : World} {g : Nat} {t : TypeId} {cs : Array Value} (h : Blk w g t cs) (i : Nat) (u : Value) : Blk (w.setCell ⟨g, i, none⟩ u) g t (cs.setIfInBounds i u) := by
  unfold Blk at h ⊢
  simp [World.setCell, Array.getElem?_modify, h]
theorem Blk.below {w w' : World} {g : Nat} {t : TypeId} {cs : Array Value} (h : Blk w g t cs) (hb : Below w.heap.size w w') : Blk w' g t cs := (hb.block g h.lt).trans h
theorem Blk.ne_ {w : World} {g g' : Nat} {t t' : TypeId} {cs cs' : Array Value} (h : Blk w g t cs) (h' : Blk w g' t' cs') (hne : t ≠ t') : g ≠ g' := by
  rintro rfl
  unfold Blk at h h'
  rw [h] at h'
  injection h' with h'
  injection h' with _ ht
  exact hne ht
def UpdPost (P : Nat) (r : Bool) (w : World) (e : Ending) (w' : World) : Prop := e = .returned (.tuple #[]) ∧ Blk w' P 4 #[.bool r] ∧ Fr (fun i => i = P) w w'
theorem upd_set {P : Nat} {b r : Bool} {w w' : World} (h : Blk w' P 4 #[.bool b]) (k : Fr (fun i => i = P) w w') : Blk (w'.setCell ⟨P, 0, none⟩ (.bool r)) P 4 #[.bool r] ∧ Fr (fun i => i = P) w (w'.setCell ⟨P, 0, none⟩ (.bool r)) :=
  ⟨h.set_ 0 (.bool r), k.set_ (.inl rfl) _⟩
end Go.Proofs.Ytgaallkdfcckpaa
