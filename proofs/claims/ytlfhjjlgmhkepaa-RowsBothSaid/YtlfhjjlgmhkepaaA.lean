/- What the walks of this seat say of a slice of cells, and plain facts. -/
import Derived.Test.YtlfhjjlgmhkepaaRows
import Derived.WalkKit
import Derived.ProofKit
import Derived.OpenShut
import Derived.Below
import Derived.Lib.Hide
import Derived.WalkLawsBesides
import Derived.Laws.OwnMore
namespace Go.Proofs.Ytlfhjjlgmhkepaa
open Go.RowKit

theorem bcell {W w1 : World} {B : Nat} (hb : Below B W w1) : (∀ b o, b < B → w1.cell? ⟨b, o, none⟩ = W.cell? ⟨b, o, none⟩) ∧ (∀ b o, b < B → w1.frozen? ⟨b, o, none⟩ = W.frozen? ⟨b, o, none⟩) :=
  ⟨fun b o h => hb.cell (p := ⟨b, o, none⟩) h, fun b o h => hb.frozen (p := ⟨b, o, none⟩) h⟩

theorem bpush {w w1 : World} (h : Below w.heap.size w w1) (o : Obj) : Below w.heap.size w (w1.alloc o) := h.alloc h.size o
theorem bthen {w w1 w2 : World} (h : Below w.heap.size w w1) (k : Below w1.heap.size w1 w2) : Below w.heap.size w w2 := h.trans (k.mono h.size)
theorem bset {w w1 : World} (h : Below w.heap.size w w1) {b o : Nat} (hb : w.heap.size ≤ b) (v : Value) : Below w.heap.size w (w1.setCell ⟨b, o, none⟩ v) := h.setCell (p := ⟨b, o, none⟩) hb v

theorem lt_of_cell {w : World} {b o : Nat} {v : Value} (h : w.cell? ⟨b, o, none⟩ = some v) : b < w.heap.size := by
  rcases Nat.lt_or_ge b w.heap.size with h1 | h1
  · exact h1
  · simp [World.cell?, Array.getElem?_eq_none h1] at h

/-- The slice's cells: none, or a row from an address on. -/
def Row (w : World) (A : Option Addr) (xs : List Value) : Prop :=
  xs = [] ∨ ∃ b off, A = some ⟨b, off, none⟩ ∧ ∀ j u, xs[j]? = some u → w.cell? ⟨b, off + j, none⟩ = some u

theorem Row.keep {w w' : World} {B : Nat} {A : Option Addr} {xs : List Value} (h : Row w A xs) (hB : w.heap.size ≤ B) (hb : Below B w w') : Row w' A xs := by
  rcases h with h | ⟨b, off, rfl, hc⟩
  · exact .inl h
  · exact .inr ⟨b, off, rfl, fun j u hu => ((bcell hb).1 _ _ (Nat.lt_of_lt_of_le (lt_of_cell (hc j u hu)) hB)).trans (hc j u hu)⟩

/-- A row that a call has just made. -/
theorem Row.made {w : World} {t : TypeId} {xs : List Value} {cs : Array Value} {b : Nat} (hb : b = w.heap.size) (hx : cs = xs.toArray) : Row (w.alloc (.cells cs t)) (some ⟨b, 0, none⟩) xs := by
  subst hb hx; exact .inr ⟨_, _, rfl, fun j u hu => by simp [hu]⟩

theorem ret_bool {a b : Bool} (h : a = b) : Ending.returned (.bool a) = .returned (.bool b) := by rw [h]
theorem row_opened {W : World} {x : Addr} {k : IntKind} {len cap : Nat} {zs : List Int} (hl : len ≤ cap) (hm : cap ≤ maxLen) (hz : zs.length = cap)
    (hcell : ∀ i, i < zs.length → W.cell? (x.add i) = some (.int k (zs.getD i 0))) (hwz : ∀ n ∈ zs, (Lit.int k n).wf = true) :
    ∃ ys : List Int, Row W (some x) (ys.map (Value.int k)) ∧ len ≤ cap ∧ cap ≤ maxLen ∧ ys.length = len ∧ ∀ n ∈ ys, (Lit.int k n).wf = true := by
  refine ⟨zs.take len, ?_, hl, hm, by rw [List.length_take]; omega, fun n hn => hwz n (List.mem_of_mem_take hn)⟩
  rcases Nat.eq_zero_or_pos len with h0 | h0
  · subst h0; exact .inl rfl
  · obtain ⟨b, off, spot⟩ := x
    have h1 := hcell 0 (by omega)
    have hs : spot = none := by simpa [Addr.add] using World.cell?_spot h1
    subst hs
    refine .inr ⟨b, off, rfl, fun j u hu => ?_⟩
    have hj : j < len ∧ j < zs.length := by
      rcases Nat.lt_or_ge j len with h | h
      · exact ⟨h, by omega⟩
      · rw [List.getElem?_eq_none (by rw [List.length_map, List.length_take]; omega)] at hu; cases hu
    have h2 := hcell j hj.2
    have hu' : u = .int k (zs.getD j 0) := by
      rw [List.getElem?_map, List.getElem?_take_of_lt hj.1, List.getElem?_eq_getElem hj.2] at hu
      rw [List.getD_eq_getElem?_getD, List.getElem?_eq_getElem hj.2]
      simpa using hu.symm
    rw [hu', ← h2]
    congr 1
    unfold Addr.add
    split
    · rename_i h; subst h; rfl
    · rfl
theorem wf_bd {n : Int} (h : (Lit.int .i64 n).wf = true) : -9223372036854775808 ≤ n ∧ n ≤ 9223372036854775807 := by
  have := bounds_i64 h
  exact this
theorem below_drewN {B : Nat} {a w : World} (h : Below B a w) (n : Nat) : Below B a (w.drewN n) := ⟨h.os, h.tape, h.output, h.size, h.block⟩
theorem cell_on {W w1 : World} {b o : Nat} {v : Value} (hb : Below W.heap.size W w1) (h : W.cell? ⟨b, o, none⟩ = some v) : w1.cell? ⟨b, o, none⟩ = some v :=
  (hb.cell (p := ⟨b, o, none⟩) (lt_of_cell h)).trans h
theorem ret_int {k : IntKind} {a b : Int} (h : a = b) : Ending.returned (.int k a) = .returned (.int k b) := by rw [h]
theorem take_snoc {α : Type} (l : List α) (k : Nat) (h : k < l.length) : l.take (k + 1) = l.take k ++ [l[k]] := by
  rw [List.take_succ_eq_append_getElem h]
theorem Row.of_own {w : World} {base : Nat} {e : TypeId} {v : Value} {n : Nat} {xs : List Value} (h : w.ownsRow base e 1 v n xs) (hn : 0 < n) :
    ∃ g cap, v = .slice (some ⟨g, 0, none⟩) n cap ∧ n ≤ cap ∧ Row w (some ⟨g, 0, none⟩) xs := by
  rcases h.2 with ⟨_, h0⟩ | ⟨g, cap, cur, rfl, h1, h2, h3, h4, h5, h6⟩
  · omega
  · refine ⟨g, cap, rfl, h3, .inr ⟨g, 0, rfl, fun j u hu => ?_⟩⟩
    have := h.cells (g := g) rfl j u hu
    unfold Addr.add at this
    split at this
    · rename_i hj; subst hj; simpa using this
    · simpa using this
theorem Row.cell {w : World} {k : IntKind} {A : Option Addr} {zs : List Int} {i : Nat} (hA : Row w A (zs.map (Value.int k))) (hi : i < zs.length) :
    ∃ b off, A = some ⟨b, off, none⟩ ∧ w.cell? ⟨b, off + i, none⟩ = some (.int k zs[i]) := by
  rcases hA with hA | ⟨b, off, rfl, hc⟩
  · simp at hA; subst hA; simp at hi
  · exact ⟨b, off, rfl, hc i _ (by simp [hi])⟩
theorem Row.head {w : World} {k : IntKind} {A : Option Addr} {zs : List Int} (hA : Row w A (zs.map (Value.int k))) (h : 0 < zs.length) : ∃ b off, A = some ⟨b, off, none⟩ := by
  obtain ⟨b, off, e, _⟩ := hA.cell h; exact ⟨b, off, e⟩
theorem Row.part {w : World} {k : IntKind} {b off : Nat} {zs : List Int} (h : Row w (some ⟨b, off, none⟩) (zs.map (Value.int k))) (t : Nat) :
    Row w (some ⟨b, off, none⟩) ((zs.take t).map (Value.int k)) ∧ Row w (some ⟨b, off + t, none⟩) ((zs.drop t).map (Value.int k)) := by
  rcases h with h | ⟨b', off', he, hc⟩
  · simp at h; subst h; exact ⟨.inl (by simp), .inl (by simp)⟩
  · cases he
    refine ⟨.inr ⟨b, off, rfl, fun j u hu => ?_⟩, .inr ⟨b, off + t, rfl, fun j u hu => ?_⟩⟩
    · rcases Nat.lt_or_ge j t with h | h
      · exact hc j u (by rw [List.getElem?_map, List.getElem?_take_of_lt h] at hu; rw [List.getElem?_map]; exact hu)
      · rw [List.getElem?_eq_none (by rw [List.length_map, List.length_take]; omega)] at hu; cases hu
    · rw [Nat.add_assoc]
      exact hc (t + j) u (by rw [List.getElem?_map, List.getElem?_drop] at hu; rw [List.getElem?_map]; exact hu)
end Go.Proofs.Ytlfhjjlgmhkepaa
