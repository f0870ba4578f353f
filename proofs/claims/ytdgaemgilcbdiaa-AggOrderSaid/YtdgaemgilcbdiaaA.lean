/- What the walks of this seat say of a slice of cells, and plain facts. -/
import Derived.Test.YtdgaemgilcbdiaaRows
import Derived.WalkKit
import Derived.ProofKit
import Derived.OpenShut
import Derived.Below
import Derived.Lib.Hide
import Derived.WalkLawsBesides
namespace Go.Proofs.Ytdgaemgilcbdiaa
open Go.RowKit

theorem bcell {W w1 : World} {B : Nat} (hb : Below B W w1) : (∀ b o, b < B → w1.cell? ⟨b, o, none⟩ = W.cell? ⟨b, o, none⟩) ∧ (∀ b o, b < B → w1.frozen? ⟨b, o, none⟩ = W.frozen? ⟨b, o, none⟩) :=
  ⟨fun b o h => hb.cell (p := ⟨b, o, none⟩) h, fun b o h => hb.frozen (p := ⟨b, o, none⟩) h⟩

theorem bpush {w w1 : World} (h : Below w.heap.size w w1) (o : Obj) : Below w.heap.size w (w1.alloc o) := h.alloc h.size o
theorem bthen {w w1 w2 : World} (h : Below w.heap.size w w1) (k : Below w1.heap.size w1 w2) : Below w.heap.size w w2 := h.trans (k.mono h.size)
theorem bset {w w1 : World} (h : Below w.heap.size w w1) {b o : Nat} (hb : w.heap.size ≤ b) (v : Value) : Below w.heap.size w (w1.setCell ⟨b, o, none⟩ v) := h.setCell (p := ⟨b, o, none⟩) hb v

theorem lt_of_cell {w : World} {b o : Nat} {v : Value} (h : w.cell? ⟨b, o, none⟩ = some v) : b < w.heap.size := by
  rcases Nat.lt_or_ge b w.heap.size with h1 | h1
  · exact h1
  · simp [World.cell?, Array.getElem?_eq_none h1] at h

/-- The slice's cells: none, or a row from an address on. -/
def Row (w : World) (A : Option Addr) (xs : List Value) : Prop :=
  xs = [] ∨ ∃ b off, A = some ⟨b, off, none⟩ ∧ ∀ j u, xs[j]? = some u → w.cell? ⟨b, off + j, none⟩ = some u

theorem Row.keep {w w' : World} {B : Nat} {A : Option Addr} {xs : List Value} (h : Row w A xs) (hB : w.heap.size ≤ B) (hb : Below B w w') : Row w' A xs := by
  rcases h with h | ⟨b, off, rfl, hc⟩
  · exact .inl h
  · exact .inr ⟨b, off, rfl, fun j u hu => ((bcell hb).1 _ _ (Nat.lt_of_lt_of_le (lt_of_cell (hc j u hu)) hB)).trans (hc j u hu)⟩

/-- A row that a call has just made. -/
theorem Row.made {w : World} {t : TypeId} {xs : List Value} {cs : Array Value} {b : Nat} (hb : b = w.heap.size) (hx : cs = xs.toArray) : Row (w.alloc (.cells cs t)) (some ⟨b, 0, none⟩) xs := by
  subst hb hx; exact .inr ⟨_, _, rfl, fun j u hu => by simp [hu]⟩

def fit1 (n : Int) : Bool := decide (-4611686018427387904 ≤ n) && decide (n ≤ 4611686018427387904)
theorem fit1_lo {n : Int} (h : n < -4611686018427387904) : fit1 n = false := by unfold fit1; simp; omega
theorem fit1_hi {n : Int} (h : 4611686018427387904 < n) : fit1 n = false := by unfold fit1; simp; omega
theorem fit1_in {n : Int} (h : -4611686018427387904 ≤ n) (h' : n ≤ 4611686018427387904) : fit1 n = true := by unfold fit1; simp; omega
theorem fit1_iff {n : Int} : fit1 n = true ↔ -4611686018427387904 ≤ n ∧ n ≤ 4611686018427387904 := by unfold fit1; simp

theorem fits_no (zs : List Int) (k : Nat) (hk : k < zs.length) (h : fit1 zs[k] = false) : zs.all fit1 = false := by
  rw [List.all_eq_false]; exact ⟨zs[k], List.getElem_mem _, by simp [h]⟩
theorem fits_yes (zs : List Int) (h : ∀ j (hj : j < zs.length), fit1 zs[j] = true) : zs.all fit1 = true := by
  rw [List.all_eq_true]; intro x hx; obtain ⟨j, hj, rfl⟩ := List.getElem_of_mem hx; exact h j hj
theorem ret_bool {a b : Bool} (h : a = b) : Ending.returned (.bool a) = .returned (.bool b) := by rw [h]
end Go.Proofs.Ytdgaemgilcbdiaa
