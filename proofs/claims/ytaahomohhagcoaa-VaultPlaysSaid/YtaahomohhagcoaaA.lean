/- What the walks of this seat say of a slice of cells, and plain facts. -/
import Derived.Test.YtaahomohhagcoaaRows
import Derived.WalkKit
import Derived.ProofKit
import Derived.OpenShut
import Derived.Below
import Derived.Lib.Hide
import Derived.WalkLawsBesides
import Derived.Laws.OwnMore
import Derived.Deep.RegionHeld3
import Derived.Deep.DeepCutAuto
import Derived.Maps.AppendAt
import Derived.Maps.RangeWalk
import Derived.Maps.OwnSet
import Derived.Deep.QuietTactic
import Derived.BigQuiet
import Derived.Laws.EntriesVeiled
namespace Go.Proofs.Ytaahomohhagcoaa
open Go.RowKit

theorem bcell {W w1 : World} {B : Nat} (hb : Below B W w1) : (∀ b o, b < B → w1.cell? ⟨b, o, none⟩ = W.cell? ⟨b, o, none⟩) ∧ (∀ b o, b < B → w1.frozen? ⟨b, o, none⟩ = W.frozen? ⟨b, o, none⟩) :=
  ⟨fun b o h => hb.cell (p := ⟨b, o, none⟩) h, fun b o h => hb.frozen (p := ⟨b, o, none⟩) h⟩

theorem bpush {w w1 : World} (h : Below w.heap.size w w1) (o : Obj) : Below w.heap.size w (w1.alloc o) := h.alloc h.size o
theorem bthen {w w1 w2 : World} (h : Below w.heap.size w w1) (k : Below w1.heap.size w1 w2) : Below w.heap.size w w2 := h.trans (k.mono h.size)
theorem bset {w w1 : World} (h : Below w.heap.size w w1) {b o : Nat} (hb : w.heap.size ≤ b) (v : Value) : Below w.heap.size w (w1.setCell ⟨b, o, none⟩ v) := h.setCell (p := ⟨b, o, none⟩) hb v

theorem lt_of_cell {w : World} {b o : Nat} {v : Value} (h : w.cell? ⟨b, o, none⟩ = some v) : b < w.heap.size := by
  rcases Nat.lt_or_ge b w.heap.size with h1 | h1
  · exact h1
  · simp [World.cell?, Array.getElem?_eq_none h1] at h

/-- The slice's cells: none, or a row from an address on. -/
def Row (w : World) (A : Option Addr) (xs : List Value) : Prop :=
  xs = [] ∨ ∃ b off, A = some ⟨b, off, none⟩ ∧ ∀ j u, xs[j]? = some u → w.cell? ⟨b, off + j, none⟩ = some u

theorem Row.keep {w w' : World} {B : Nat} {A : Option Addr} {xs : List Value} (h : Row w A xs) (hB : w.heap.size ≤ B) (hb : Below B w w') : Row w' A xs := by
  rcases h with h | ⟨b, off, rfl, hc⟩
  · exact .inl h
  · exact .inr ⟨b, off, rfl, fun j u hu => ((bcell hb).1 _ _ (Nat.lt_of_lt_of_le (lt_of_cell (hc j u hu)) hB)).trans (hc j u hu)⟩

/-- A row that a call has just made. -/
theorem Row.made {w : World} {t : TypeId} {xs : List Value} {cs : Array Value} {b : Nat} (hb : b = w.heap.size) (hx : cs = xs.toArray) : Row (w.alloc (.cells cs t)) (some ⟨b, 0, none⟩) xs := by
  subst hb hx; exact .inr ⟨_, _, rfl, fun j u hu => by simp [hu]⟩

theorem ret_bool {a b : Bool} (h : a = b) : Ending.returned (.bool a) = .returned (.bool b) := by rw [h]
theorem row_opened {W : World} {x : Addr} {k : IntKind} {len cap : Nat} {zs : List Int} (hl : len ≤ cap) (hm : cap ≤ maxLen) (hz : zs.length = cap)
    (hcell : ∀ i, i < zs.length → W.cell? (x.add i) = some (.int k (zs.getD i 0))) (hwz : ∀ n ∈ zs, (Lit.int k n).wf = true) :
    ∃ ys : List Int, Row W (some x) (ys.map (Value.int k)) ∧ len ≤ cap ∧ cap ≤ maxLen ∧ ys.length = len ∧ ∀ n ∈ ys, (Lit.int k n).wf = true := by
  refine ⟨zs.take len, ?_, hl, hm, by rw [List.length_take]; omega, fun n hn => hwz n (List.mem_of_mem_take hn)⟩
  rcases Nat.eq_zero_or_pos len with h0 | h0
  · subst h0; exact .inl rfl
  · obtain ⟨b, off, spot⟩ := x
    have h1 := hcell 0 (by omega)
    have hs : spot = none := by simpa [Addr.add] using World.cell?_spot h1
    subst hs
    refine .inr ⟨b, off, rfl, fun j u hu => ?_⟩
    have hj : j < len ∧ j < zs.length := by
      rcases Nat.lt_or_ge j len with h | h
      · exact ⟨h, by omega⟩
      · rw [List.getElem?_eq_none (by rw [List.length_map, List.length_take]; omega)] at hu; cases hu
    have h2 := hcell j hj.2
    have hu' : u = .int k (zs.getD j 0) := by
      rw [List.getElem?_map, List.getElem?_take_of_lt hj.1, List.getElem?_eq_getElem hj.2] at hu
      rw [List.getD_eq_getElem?_getD, List.getElem?_eq_getElem hj.2]
      simpa using hu.symm
    rw [hu', ← h2]
    congr 1
    unfold Addr.add
    split
    · rename_i h; subst h; rfl
    · rfl
theorem wf_bd {n : Int} (h : (Lit.int .i64 n).wf = true) : -9223372036854775808 ≤ n ∧ n ≤ 9223372036854775807 := by
  have := bounds_i64 h
  exact this
theorem below_drewN {B : Nat} {a w : World} (h : Below B a w) (n : Nat) : Below B a (w.drewN n) := ⟨h.os, h.tape, h.output, h.size, h.block⟩
theorem cell_on {W w1 : World} {b o : Nat} {v : Value} (hb : Below W.heap.size W w1) (h : W.cell? ⟨b, o, none⟩ = some v) : w1.cell? ⟨b, o, none⟩ = some v :=
  (hb.cell (p := ⟨b, o, none⟩) (lt_of_cell h)).trans h
theorem ret_int {k : IntKind} {a b : Int} (h : a = b) : Ending.returned (.int k a) = .returned (.int k b) := by rw [h]
theorem take_snoc {α : Type} (l : List α) (k : Nat) (h : k < l.length) : l.take (k + 1) = l.take k ++ [l[k]] := by
  rw [List.take_succ_eq_append_getElem h]
theorem Row.of_own {w : World} {base : Nat} {e : TypeId} {v : Value} {n : Nat} {xs : List Value} (h : w.ownsRow base e 1 v n xs) (hn : 0 < n) :
    ∃ g cap, v = .slice (some ⟨g, 0, none⟩) n cap ∧ n ≤ cap ∧ Row w (some ⟨g, 0, none⟩) xs := by
  rcases h.2 with ⟨_, h0⟩ | ⟨g, cap, cur, rfl, h1, h2, h3, h4, h5, h6⟩
  · omega
  · refine ⟨g, cap, rfl, h3, .inr ⟨g, 0, rfl, fun j u hu => ?_⟩⟩
    have := h.cells (g := g) rfl j u hu
    unfold Addr.add at this
    split at this
    · rename_i hj; subst hj; simpa using this
    · simpa using this
theorem Row.cell {w : World} {k : IntKind} {A : Option Addr} {zs : List Int} {i : Nat} (hA : Row w A (zs.map (Value.int k))) (hi : i < zs.length) :
    ∃ b off, A = some ⟨b, off, none⟩ ∧ w.cell? ⟨b, off + i, none⟩ = some (.int k zs[i]) := by
  rcases hA with hA | ⟨b, off, rfl, hc⟩
  · simp at hA; subst hA; simp at hi
  · exact ⟨b, off, rfl, hc i _ (by simp [hi])⟩
theorem Row.head {w : World} {k : IntKind} {A : Option Addr} {zs : List Int} (hA : Row w A (zs.map (Value.int k))) (h : 0 < zs.length) : ∃ b off, A = some ⟨b, off, none⟩ := by
  obtain ⟨b, off, e, _⟩ := hA.cell h; exact ⟨b, off, e⟩
theorem Row.part {w : World} {k : IntKind} {b off : Nat} {zs : List Int} (h : Row w (some ⟨b, off, none⟩) (zs.map (Value.int k))) (t : Nat) :
    Row w (some ⟨b, off, none⟩) ((zs.take t).map (Value.int k)) ∧ Row w (some ⟨b, off + t, none⟩) ((zs.drop t).map (Value.int k)) := by
  rcases h with h | ⟨b', off', he, hc⟩
  · simp at h; subst h; exact ⟨.inl (by simp), .inl (by simp)⟩
  · cases he
    refine ⟨.inr ⟨b, off, rfl, fun j u hu => ?_⟩, .inr ⟨b, off + t, rfl, fun j u hu => ?_⟩⟩
    · rcases Nat.lt_or_ge j t with h | h
      · exact hc j u (by rw [List.getElem?_map, List.getElem?_take_of_lt h] at hu; rw [List.getElem?_map]; exact hu)
      · rw [List.getElem?_eq_none (by rw [List.length_map, List.length_take]; omega)] at hu; cases hu
    · rw [Nat.add_assoc]
      exact hc (t + j) u (by rw [List.getElem?_map, List.getElem?_drop] at hu; rw [List.getElem?_map]; exact hu)
def texts (l : List ByteArray) : List Value := l.map Value.string
theorem text_cell {w : World} {A : Option Addr} {l : List ByteArray} {i : Nat} (hA : Row w A (texts l)) (hi : i < l.length) :
    ∃ b off, A = some ⟨b, off, none⟩ ∧ w.cell? ⟨b, off + i, none⟩ = some (.string l[i]) := by
  rcases hA with hA | ⟨b, off, rfl, hc⟩
  · have := congrArg List.length hA; simp [texts] at this; rw [this] at hi; simp at hi
  · exact ⟨b, off, rfl, hc i _ (by simp [texts, hi])⟩
theorem str_ne {a b : ByteArray} (h : a ≠ b) : (a.toList == b.toList) = false := by
  rw [ByteArray.toList_eq, ByteArray.toList_eq, beq_eq_false_iff_ne]
  exact fun e => h (by cases a; cases b; congr 1; exact Array.toList_inj.1 e)
theorem str_ne_lit {s : ByteArray} {l : List UInt8} (h : s ≠ ⟨l.toArray⟩) : (s.toList == l) = false := by
  have h1 := str_ne h
  rw [ByteArray.toList_eq ⟨l.toArray⟩] at h1
  exact h1
theorem info_parts {t : TypeId} {z : Value} {a b : Nat} (h : (Try.prog.info? t).map (fun i => (i.zero, i.size, i.bytes)) = some (some z, a, b)) :
    ∃ i0, Try.prog.info? t = some i0 ∧ i0.zero = some z ∧ i0.size = a ∧ i0.bytes = b := by
  cases hi : Try.prog.info? t with
  | none => rw [hi] at h; cases h
  | some i => rw [hi] at h; simp at h; exact ⟨i, rfl, h.1, h.2.1, h.2.2⟩
theorem info9 : (Try.prog.info? 9).map (fun i => (i.zero, i.size, i.bytes)) = some (some (.string ⟨#[]⟩), 1, 16) := by kernel_rfl
theorem own_below {w w' : World} {B : Nat} {e : TypeId} {size : Nat} {v : Value} {n : Nat} {xs : List Value} (h : w.ownsRow B e size v n xs) (hb : Below w.heap.size w w') : w'.ownsRow B e size v n xs :=
  h.kept (row := none) ⟨hb.os, hb.tape, hb.output, hb.size, fun i hi _ => hb.block i hi⟩ (by cases v.ownBlock <;> simp)
theorem own_slice {B : Nat} {w : World} {e : TypeId} {v : Value} {n : Nat} {xs : List Value} (h : w.ownsRow B e 1 v n xs) : ∃ A c, v = .slice A n c ∧ Row w A xs ∧ n ≤ c ∧ (A = none → c = 0) := by
  have hn : n = xs.length := by have := h.1; simpa using this.symm
  rcases h.2 with ⟨rfl, h0⟩ | ⟨g, cap, cur, rfl, _, _, hc, _⟩
  · have hz0 : xs = [] := List.length_eq_zero_iff.1 (by omega)
    exact ⟨none, 0, by rw [h0], .inl hz0, by omega, fun _ => rfl⟩
  · rcases Nat.eq_zero_or_pos n with h0 | h0
    · have hz0 : xs = [] := List.length_eq_zero_iff.1 (by omega)
      exact ⟨_, cap, rfl, .inl hz0, hc, fun h => by cases h⟩
    · obtain ⟨g', cap', he, _, hr⟩ := Row.of_own h h0
      cases he
      exact ⟨_, cap, rfl, hr, hc, fun h => by cases h⟩
theorem one_texts (L : List ByteArray) : ∀ u ∈ texts L, u.oneCell' = true := by
  intro u hu; unfold texts at hu; obtain ⟨s, _, rfl⟩ := List.mem_map.1 hu; rfl
theorem row_grown9 {w w' : World} {row : Option Nat} {g off : Nat} {xs : List Value} (hg : w.grownBy w' row) (h : Row w (some ⟨g, off, none⟩) xs) (hne : some g ≠ row) : Row w' (some ⟨g, off, none⟩) xs := by
  rcases h with h | ⟨b, off', he, hc⟩
  · exact .inl h
  · cases he
    exact .inr ⟨_, _, rfl, fun j u hu => hg.cell (hc j u hu) hne⟩
theorem grown_own {w w' : World} {B : Nat} {v : Value} {e : TypeId} {n : Nat} {xs : List Value} (hown : w.ownsRow B e 1 v n xs) (hg : w.grownBy w' v.ownBlock) (h : B ≤ w.heap.size) : Below B w w' :=
  ⟨hg.os, hg.tape, hg.output, hg.size, fun i hi => hg.block i (by omega) (by
    rcases hown.2 with ⟨rfl, _⟩ | ⟨g, cap, cur, rfl, hb, _⟩
    · simp [Value.ownBlock]
    · simp [Value.ownBlock]; omega)⟩
theorem Row.at' {w : World} {ad : Addr} {xs : List Value} (h : Row w (some ad) xs) : ∀ j u, xs[j]? = some u → w.cell? (ad.add j) = some u := by
  intro j u hu
  rcases h with rfl | ⟨b, off, he, hc⟩
  · simp at hu
  · cases he
    have e : (⟨b, off, none⟩ : Addr).add j = ⟨b, off + j, none⟩ := by
      unfold Addr.add; split
      · rename_i h; subst h; rfl
      · rfl
    rw [e]; exact hc j u hu
theorem own_empty {w : World} {B : Nat} {t : TypeId} {size : Nat} (hB : B ≤ w.heap.size) : (w.alloc (.cells #[] t)).ownsRow B t size (.slice (some ⟨w.heap.size, 0, none⟩) 0 0) 0 [] :=
  ⟨by simp, .inr ⟨w.heap.size, 0, #[], rfl, hB, heap_alloc_new w _, Nat.le_refl _, Nat.zero_le _, by simp, by simp⟩⟩
theorem own_dr {w : World} {B : Nat} {t : TypeId} {size n : Nat} {v : Value} {xs : List Value} (h : w.ownsRow B t size v n xs) (q : Nat) : (w.drewN q).ownsRow B t size v n xs := h
theorem row_dr {w : World} {A : Option Addr} {xs : List Value} (h : Row w A xs) (q : Nat) : Row (w.drewN q) A xs := h
theorem bool_of (p : Prop) : ∃ q : Bool, q = true ↔ p := by
  by_cases h : p
  · exact ⟨true, by simp [h]⟩
  · exact ⟨false, by simp [h]⟩
theorem cell_made {W : World} {xs : Array Value} {t : TypeId} {b j : Nat} {u : Value} (hb : b = W.heap.size) (h : xs[j]? = some u) : (W.alloc (.cells xs t)).cell? ⟨b, j, none⟩ = some u := by
  subst hb; simp [h]
def dat (s : ByteArray) : List UInt8 := s.data.toList
theorem dat_inj {a b : ByteArray} (h : dat a = dat b) : a = b := by
  cases a; cases b; congr 1; exact Array.toList_inj.1 h
def ofD (l : List UInt8) : ByteArray := ⟨l.toArray⟩
theorem dat_of (l : List UInt8) : dat (ofD l) = l := by simp [dat, ofD]
theorem of_dat (s : ByteArray) : ofD (dat s) = s := dat_inj (dat_of _)
def ltT (a b : ByteArray) : Prop := dat a < dat b
instance (a b : ByteArray) : Decidable (ltT a b) := by unfold ltT; infer_instance
theorem lt_irr (a : ByteArray) : ¬ ltT a a := List.lt_irrefl _
theorem lt_tr {a b c : ByteArray} (h : ltT a b) (k : ltT b c) : ltT a c := List.lt_trans h k
theorem lt_asy {a b : ByteArray} (h : ltT a b) : ¬ ltT b a := fun k => lt_irr a (lt_tr h k)
theorem lt_tri (a b : ByteArray) : ltT a b ∨ a = b ∨ ltT b a := by
  by_cases h : ltT a b
  · exact .inl h
  · by_cases k : ltT b a
    · exact .inr (.inr k)
    · exact .inr (.inl (dat_inj (List.le_antisymm (List.not_lt.1 k) (List.not_lt.1 h))))
def rising (D : List ByteArray) : Prop := D.Pairwise ltT
theorem rising_ext : ∀ {D E : List ByteArray}, rising D → rising E → (∀ s, s ∈ D ↔ s ∈ E) → D = E := by
  intro D
  induction D with
  | nil => intro E _ _ h; cases E with
    | nil => rfl
    | cons b E => have := (h b).2 (List.mem_cons_self ..); cases this
  | cons a D ih =>
    intro E hD hE h
    cases E with
    | nil => have := (h a).1 (List.mem_cons_self ..); cases this
    | cons b E =>
      obtain ⟨d1, d2⟩ := List.pairwise_cons.1 hD
      obtain ⟨e1, e2⟩ := List.pairwise_cons.1 hE
      have hab : a = b := by
        have h1 := (h a).1 (List.mem_cons_self ..)
        have h2 := (h b).2 (List.mem_cons_self ..)
        rcases List.mem_cons.1 h1 with h1 | h1
        · exact h1
        · rcases List.mem_cons.1 h2 with h2 | h2
          · exact h2.symm
          · exact absurd (d1 b h2) (lt_asy (e1 a h1))
      subst hab
      congr 1
      refine ih d2 e2 fun s => ⟨fun hs => ?_, fun hs => ?_⟩
      · rcases List.mem_cons.1 ((h s).1 (List.mem_cons_of_mem _ hs)) with e | e
        · exact absurd (e ▸ d1 s hs) (lt_irr s)
        · exact e
      · rcases List.mem_cons.1 ((h s).2 (List.mem_cons_of_mem _ hs)) with e | e
        · exact absurd (e ▸ e1 s hs) (lt_irr s)
        · exact e
theorem rising_lt {D : List ByteArray} (h : rising D) {i j : Nat} (hij : i < j) (hj : j < D.length) : ltT (D[i]'(by omega)) D[j] := List.pairwise_iff_getElem.1 h i j (by omega) hj hij
theorem info5 : (Try.prog.info? 5).map (fun i => (i.zero, i.size, i.bytes)) = some (some (.int .u8 0), 1, 1) := by kernel_rfl
section
variable {w w' : World} {g : Nat} {t : TypeId} {cs : Array Value}
def Blk (w : World) (g : Nat) (t : TypeId) (cs : Array Value) : Prop := w.heap[g]? = some (.cells cs t (0, 0))
theorem lt_of_heap {o : Obj} (h : w.heap[g]? = some o) : g < w.heap.size := (Array.getElem?_eq_some_iff.1 h).1
theorem Blk.lt (h : Blk w g t cs) : g < w.heap.size := lt_of_heap h
theorem Blk.cell (h : Blk w g t cs) (i : Nat) : w.cell? ⟨g, i, none⟩ = cs[i]? := cell_of_row w g i cs t (0, 0) h
theorem Blk.frozen (h : Blk w g t cs) (i : Nat) : w.frozen? ⟨g, i, none⟩ = false := by
  unfold Blk at h
  simp [World.frozen?, h]
theorem Blk.new (w : World) (t : TypeId) (cs : Array Value) : Blk (w.alloc (.cells cs t)) w.heap.size t cs := heap_alloc_new w _
theorem Blk.alloc (h : Blk w g t cs) (o : Obj) : Blk (w.alloc o) g t cs := (Below.heap_alloc w o g h.lt).trans h
theorem Blk.set_ (h : Blk w g t cs) (i : Nat) (u : Value) : Blk (w.setCell ⟨g, i, none⟩ u) g t (cs.setIfInBounds i u) := by
  unfold Blk at h ⊢
  simp [World.setCell, Array.getElem?_modify, h]
theorem Blk.far (h : Blk w g t cs) {p : Addr} (hp : g ≠ p.block) (u : Value) : Blk (w.setCell p u) g t cs := (Below.heap_setCell w p u g hp).trans h
theorem Blk.grown {row : Option Nat} (h : Blk w g t cs) (hg : w.grownBy w' row) (hr : row ≠ some g) : Blk w' g t cs := (hg.block g h.lt (Ne.symm hr)).trans h
theorem grown_none (h : Below w.heap.size w w') : w.grownBy w' none := ⟨h.os, h.tape, h.output, h.size, fun i hi _ => h.block i hi⟩
end
section
variable {W W' : World} {B size k : Nat} {e : TypeId} {v : Value} {xs : List Value}
theorem own_is (h : W.ownsRow B e size v k xs) : ∃ A c, v = .slice A k c := by
  rcases h.2 with ⟨rfl, h0⟩ | ⟨g, cap, cur, rfl, _⟩
  · exact ⟨none, 0, by rw [h0]⟩
  · exact ⟨_, _, rfl⟩
theorem _root_.Go.World.ownsRow.not_blk {g : Nat} {t : TypeId} {cs : Array Value} (h : W.ownsRow B e size v k xs) (hb : Blk W g t cs) (ht : t ≠ e) : v.ownBlock ≠ some g := by
  rcases h.2 with ⟨rfl, _⟩ | ⟨g', cap, cur, rfl, _, hc, _⟩
  · simp [Value.ownBlock]
  · intro e'
    obtain rfl : g' = g := by simpa [Value.ownBlock] using e'
    have := hc.symm.trans hb
    cases this; exact ht rfl
theorem own_not_loop {l : Nat} {r : Loop} (h : W.ownsRow B e size v k xs) (hl : W.heap[l]? = some (.loop r)) : v.ownBlock ≠ some l := by
  rcases h.2 with ⟨rfl, _⟩ | ⟨g', cap, cur, rfl, _, hc, _⟩
  · simp [Value.ownBlock]
  · intro e'
    obtain rfl : g' = l := by simpa [Value.ownBlock] using e'
    have := hc.symm.trans hl
    cases this
theorem own_not_def {l : Nat} {d : Option (List Deferred)} (h : W.ownsRow B e size v k xs) (hl : W.heap[l]? = some (.deferred d)) : v.ownBlock ≠ some l := by
  rcases h.2 with ⟨rfl, _⟩ | ⟨g', cap, cur, rfl, _, hc, _⟩
  · simp [Value.ownBlock]
  · intro e'
    obtain rfl : g' = l := by simpa [Value.ownBlock] using e'
    have := hc.symm.trans hl
    cases this
theorem loop_not_blk {l g : Nat} {r : Loop} {t : TypeId} {cs : Array Value} (hl : W.heap[l]? = some (.loop r)) (hb : Blk W g t cs) : l ≠ g := by
  rintro rfl; have := hl.symm.trans hb; cases this
theorem own_not_own {B2 size2 k2 : Nat} {e2 : TypeId} {v2 : Value} {xs2 : List Value} (h : W.ownsRow B e size v k xs) (h2 : W.ownsRow B2 e2 size2 v2 k2 xs2) (ht : e ≠ e2) : v.ownBlock = none ∨ v.ownBlock ≠ v2.ownBlock := by
  rcases h.2 with ⟨rfl, _⟩ | ⟨g', cap, cur, rfl, _, hc, _⟩
  · exact .inl rfl
  · refine .inr fun e' => ?_
    rcases h2.2 with ⟨rfl, _⟩ | ⟨g2, cap2, cur2, rfl, _, hc2, _⟩
    · simp [Value.ownBlock] at e'
    · obtain rfl : g' = g2 := by simpa [Value.ownBlock] using e'
      have := hc.symm.trans hc2
      cases this; exact ht rfl
end
theorem Blk.below {w w' : World} {g B : Nat} {t : TypeId} {cs : Array Value} (h : Blk w g t cs) (hb : Below B w w') (hg : g < B) : Blk w' g t cs := (hb.block g hg).trans h
theorem own_less {B C : Nat} {w : World} {e : TypeId} {size : Nat} {v : Value} {n : Nat} {xs : List Value} (h : w.ownsRow B e size v n xs) (hC : C ≤ B) : w.ownsRow C e size v n xs :=
  ⟨h.1, h.2.imp id fun ⟨g, cap, cur, e1, e2, e3⟩ => ⟨g, cap, cur, e1, Nat.le_trans hC e2, e3⟩⟩
theorem own_apart {w : World} {B g size : Nat} {e : TypeId} {v : Value} {n : Nat} {xs : List Value} (h : w.ownsRow B e size v n xs) (hg : g < B) : v.ownBlock ≠ some g := by
  rcases h.2 with ⟨rfl, _⟩ | ⟨g', cap, cur, rfl, hb, _⟩
  · simp [Value.ownBlock]
  · simp [Value.ownBlock]; omega
theorem own_fresh {w : World} {B size : Nat} {e : TypeId} {v : Value} {n : Nat} {xs : List Value} (h : w.ownsRow B e size v n xs) : v.ownBlock ≠ some w.heap.size := by
  intro e
  have := h.lt _ e
  omega
theorem own_set' {w : World} {B g o n size : Nat} {v u : Value} {e : TypeId} {xs : List Value} (h : w.ownsRow B e size v n xs) (hv : v.ownBlock ≠ some g) : (w.setCell ⟨g, o, none⟩ u).ownsRow B e size v n xs :=
  h.kept (row := some g) ⟨rfl, rfl, rfl, by simp [World.setCell], fun i hi hne => Below.heap_setCell w _ _ i (fun e => hne (by rw [e]))⟩ (.inr hv)
section
variable {P : Program} {l : List Oper} {Q : Exit → Act → World → Prop} {md : Region.Mode} {S : World → Prop}
/-- An operation of a drawn region that is carried out, and looks at no memory but what S tells: it is taken next. -/
theorem take_want {i : Nat} {oi : Oper} {v : Value} {fuel : Nat} {listed : Array Bool} {a : Act} {w : World} (hi : l[i]? = some oi)
    (hs : Region.noSelect l.toArray = true) (hf : Region.free md l.toArray listed i = true) (hr : (Region.ready md l.toArray listed).contains i = true)
    (hQ : ∀ c a w, Q (.panic c) (a.put oi.dst v) w → Q (.panic c) a w) (hw : Region.wanted oi (yielded l.toArray a.tmps) = true) (hy : ∀ w, S w → (execOp a.eval oi).run P w = .ok (.value v) w) (hS : S w)
    (h : wpAnyH P md l.toArray Q S fuel (listed.setIfInBounds i true) (a.put oi.dst v) w) : wpAnyH P md l.toArray Q S (fuel + 1) listed a w :=
  wpAnyH_take (by simpa using hi) hs hf hr hQ (Or.inl ⟨hw, hy⟩) hS h
/-- One whose guard says no. -/
theorem take_skip {i : Nat} {oi : Oper} {fuel : Nat} {listed : Array Bool} {a : Act} {w : World} (hi : l[i]? = some oi)
    (hs : Region.noSelect l.toArray = true) (hf : Region.free md l.toArray listed i = true) (hr : (Region.ready md l.toArray listed).contains i = true)
    (hQ : ∀ c a w, Q (.panic c) (a.put oi.dst undef) w → Q (.panic c) a w) (hw : Region.wanted oi (yielded l.toArray a.tmps) = false) (hS : S w)
    (h : wpAnyH P md l.toArray Q S fuel (listed.setIfInBounds i true) (a.put oi.dst undef) w) : wpAnyH P md l.toArray Q S (fuel + 1) listed a w :=
  wpAnyH_take (by simpa using hi) hs hf hr hQ (Or.inr ⟨hw, rfl⟩) hS h
end
theorem step_append_at {w : World} {ops : Array Oper} {o : Oper} {a : Act} {K : Act → World → Prop} {Q : Exit → Act → World → Prop} {E : Prop} (hgd : o.guard = none) (s x : Operand) (t : TypeId)
    (ho : o.op = .call { callee := .builtin .append, args := #[s, x], argTypes := #[t, t] })
    (base : Nat) (e : TypeId) (i : TypeInfo) (z : Value) (size bytes : Nat) (ht : Try.prog.underlying t = some (.slice e)) (hi : Try.prog.info? e = some i) (hz : i.zero = some z)
    (hsize : i.size = size) (hby : i.bytes = bytes) (hzs : z.cells.size = size) (hsz : 0 < size)
    (v : Value) (n : Nat) (xs : List Value) (hs : a.eval s = v) (hown : w.ownsRow base e size v n xs)
    (ad : Addr) (m c : Nat) (news : List Value) (hx : a.eval x = .slice (some ad) m c) (hl : news.length = m * size) (hnews : ∀ j u, news[j]? = some u → w.cell? (ad.add j) = some u) (h1 : ∀ u ∈ news, u.oneCell' = true)
    (h63 : n + m ≤ maxLen) (hbytes : (n + m) * bytes ≤ 140737488355328) (hbase : base ≤ w.heap.size)
    (h : ∀ v' w', w'.ownsRow base e size v' (n + m) (xs ++ news) → w.grownBy w' v.ownBlock → (v'.ownBlock = v.ownBlock ∨ v'.ownBlock = some w.heap.size) → K (a.put o.dst v') w') :
    if Region.wanted o (yielded ops a.tmps) = true then Oper.wp Try.prog o a w K Q else E := by
  have hw : Region.wanted o (yielded ops a.tmps) = true := by simp [Region.wanted, hgd]
  rw [if_pos hw]
  obtain ⟨v', w', hr, h2, h3, h4, h5⟩ := run_append_own_at (P := Try.prog) w base t o.type e i z size bytes ht hi hz hsize hby hzs hsz v n xs hown ad m c news hl hnews h1 h63 hbytes hbase
  unfold Oper.wp execOp
  simp only [ho, resolve, invoke, builtin, Sem.run_bind, Sem.run_pure, Result.andThen_ok, List.map_toArray, List.map_cons, List.map_nil, hs, hx, hr]
  exact h v' w' h2 h3 h5
theorem eql_nil31 (A : Option Addr) (n c : Nat) (w : World) : (binOp .eql 31 (.slice A n c) (.slice none 0 0)).run Try.prog w = .ok (.bool A.isNone) w := by
  simp only [binOp]
  rw [Sem.run_bind, run_equal_slice_nil w 31 5 A n c Try.underlying31]; rfl
set_option maxRecDepth 100000 in
set_option maxHeartbeats 8000000 in
theorem cloneB_any (A : Option Addr) (n c : Nat) (xs : List Value) (w : World) (hA : Row w A xs) (hx : xs.length = n * 1) (h1 : ∀ u ∈ xs, u.oneCell' = true) (hnc : n ≤ c) (ha : A = none → c = 0) (hs : n * 1 ≤ 140737488355328) :
    Calls Try.prog 40 #[.slice A n c] w fun e w' => ∃ D k, e = .returned (.slice D n k) ∧ w'.ownsRow w.heap.size 5 1 (.slice D n k) n xs ∧ Below w.heap.size w w' := by
  have HA := Lib.hid hA
  have HX := Lib.hid hx
  have HN := Lib.hid hnc
  have H1 := Lib.hid h1
  have HS := Lib.hid hs
  clear hA hx hnc h1 hs
  cases A with
  | none =>
    have e1 : c = 0 := ha rfl
    have e2 : n = 0 := by have := HN.out; omega
    subst e1 e2
    have e3 : xs = [] := List.eq_nil_of_length_eq_zero (by have := HX.out; omega)
    subst e3
    clear ha
    have hq := eql_nil31 none 0 0
    go_enter Try.func40, Try.ntmps40
    go_wp2_with fail
    go_ret
    exact ⟨_, _, rfl, World.ownsRow_nil _ _ _ _, Below.refl _ _⟩
  | some a =>
    clear ha
    obtain ⟨i0, hi0, hz0, hz1, hz2⟩ := info_parts info5
    have HM : Hid (n ≤ maxLen) := Lib.hid (by have := HS.out; unfold maxLen; omega)
    have hq := eql_nil31 (some a) n c
    go_enter Try.func40, Try.ntmps40
    go_wp2_with (at_builtin; refine wpList_append_own_at _ rfl _ _ 31 rfl w.heap.size 5 i0 (.int .u8 0) 1 1 Try.underlying31 hi0 hz0 hz1 hz2 rfl (by decide) _ 0 [] rfl (own_empty (Nat.le_refl _)) a n c xs rfl HX.out ((HA.out.keep (Nat.le_refl _) (bpush (Below.refl _ _) _)).at') H1.out (by rw [Nat.zero_add]; exact HM.out) (by rw [Nat.zero_add]; exact HS.out) (by simp) ?_; intro v5 w5 ho5 hg5 _ _)
    have hb5 : Below w.heap.size w w5 := ⟨hg5.os, hg5.tape, hg5.output, by have := hg5.size; simp at this; omega, fun i hi => by
      rw [hg5.block i (by simp; omega) (by intro e; have e2 : i = w.heap.size := Option.some.inj e; omega)]
      exact Below.heap_alloc _ _ _ hi⟩
    rw [Nat.zero_add, List.nil_append] at ho5
    have hv : ∃ D k, v5 = .slice D n k := by
      rcases ho5.2 with ⟨rfl, h0⟩ | ⟨g, cap, cur, rfl, _⟩
      · exact ⟨none, 0, by rw [h0]⟩
      · exact ⟨_, _, rfl⟩
    obtain ⟨D, k, rfl⟩ := hv
    have HO5 := Lib.hid ho5
    have HB5 := Lib.hid hb5
    clear ho5 hg5 hb5
    go_wp2_with fail
    go_ret
    exact ⟨_, _, rfl, HO5.out, HB5.out⟩
end Go.Proofs.Ytaahomohhagcoaa
