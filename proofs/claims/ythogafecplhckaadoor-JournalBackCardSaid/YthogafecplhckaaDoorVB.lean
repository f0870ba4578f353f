/- A vault in memory: its cell, its files, and what stays. -/
import Derived.Test.YthogafecplhckaaDoorVA
namespace Go.Proofs.YthogafecplhckaaDoor
open Go.RowKit
set_option linter.unusedSimpArgs false
set_option linter.unusedVariables false
/-- What stays but in some blocks. -/
structure Fr (S : Nat → Prop) (w w' : World) : Prop where
  os : w'.os = w.os
  tape : w'.tape = w.tape
  output : w'.output = w.output
  size : w.heap.size ≤ w'.heap.size
  block : ∀ i, i < w.heap.size → ¬ S i → w'.heap[i]? = w.heap[i]?
theorem Fr.refl (S : Nat → Prop) (w : World) : Fr S w w := ⟨rfl, rfl, rfl, Nat.le_refl _, fun _ _ _ => rfl⟩
theorem Fr.trans {S : Nat → Prop} {w w1 w2 : World} (h : Fr S w w1) (k : Fr S w1 w2) : Fr S w w2 :=
  ⟨k.os.trans h.os, k.tape.trans h.tape, k.output.trans h.output, Nat.le_trans h.size k.size, fun i hi hs => (k.block i (Nat.lt_of_lt_of_le hi h.size) hs).trans (h.block i hi hs)⟩
theorem Fr.mono {S S' : Nat → Prop} {w w' : World} (h : Fr S w w') (hs : ∀ i, i < w.heap.size → S i → S' i) : Fr S' w w' :=
  ⟨h.os, h.tape, h.output, h.size, fun i hi k => h.block i hi fun hS => k (hs i hi hS)⟩
theorem Fr.of_below {w w' : World} {S : Nat → Prop} (h : Below w.heap.size w w') : Fr S w w' := ⟨h.os, h.tape, h.output, h.size, fun i hi _ => h.block i hi⟩
theorem Fr.of_grown {w w' : World} {row : Option Nat} (h : w.grownBy w' row) : Fr (fun i => row = some i) w w' := ⟨h.os, h.tape, h.output, h.size, fun i hi hs => h.block i hi fun e => hs e.symm⟩
theorem Fr.below {w w' : World} {S : Nat → Prop} {B : Nat} (h : Fr S w w') (hb : B ≤ w.heap.size) (hs : ∀ i, S i → B ≤ i) : Below B w w' := ⟨h.os, h.tape, h.output, h.size, fun i hi => h.block i (by omega) fun k => by have := hs i k; omega⟩
theorem Fr.drew {w w' : World} {S : Nat → Prop} (h : Fr S w w') (n : Nat) : Fr S w (w'.drewN n) := ⟨h.os, h.tape, h.output, h.size, h.block⟩
theorem Fr.set_ {w w' : World} {S : Nat → Prop} (h : Fr S w w') {a o : Nat} (hs : S a ∨ w.heap.size ≤ a) (v : Value) : Fr S w (w'.setCell ⟨a, o, none⟩ v) :=
  ⟨h.os, h.tape, h.output, by simpa [World.setCell] using h.size, fun i hi k => by
    rw [← h.block i hi k]
    refine Below.heap_setCell w' ⟨a, o, none⟩ v i ?_
    intro e; simp at e; subst e
    rcases hs with hs | hs
    · exact k hs
    · omega⟩
theorem Fr.alloc {w w' : World} {S : Nat → Prop} (h : Fr S w w') (o : Obj) : Fr S w (w'.alloc o) :=
  ⟨h.os, h.tape, h.output, by have := h.size; simp; omega, fun i hi k => by
    rw [← h.block i hi k]
    exact Below.heap_alloc _ _ _ (Nat.lt_of_lt_of_le hi h.size)⟩
/-- A file as it stands in the map: a name, a slice, how many bytes are safe; its bytes. -/
structure FZ where
  name : ByteArray
  A : Option Addr
  n : Nat
  c : Nat
  safe : Nat
  bs : List Int
def FZ.val (f : FZ) : Value := .agg #[.slice f.A f.n f.c, .int .i64 f.safe]
def heldR (v : Value) : Option (DataW Value × List MemPlace) := some (.held v, [])
def ent (f : FZ) : Lit × DataW Value := (.string (dat f.name), .held f.val)
def mapD (F : List FZ) : DataW Value := .map (F.map ent)
def insF (f : FZ) : List FZ → List FZ
  | [] => [f]
  | g :: r => if bytesBefore (dat f.name) (dat g.name) then f :: g :: r else g :: insF f r
def dropF (F : List FZ) (s : ByteArray) : List FZ := F.filter fun f => !(dat f.name == dat s)
def putF (F : List FZ) (f : FZ) : List FZ := insF f (dropF F f.name)
def lookF (F : List FZ) (s : ByteArray) : Option FZ := F.find? fun f => dat f.name == dat s
def usedF (F : List FZ) : Nat := (F.map FZ.n).sum
theorem ins_ent (f : FZ) : ∀ F : List FZ, DataW.insert (ent f) (F.map ent) = (insF f F).map ent := by
  intro F
  induction F with
  | nil => rfl
  | cons g F ih =>
    show (if (ent f).1.before (ent g).1 then _ else _) = _
    unfold insF
    have e : (ent f).1.before (ent g).1 = bytesBefore (dat f.name) (dat g.name) := rfl
    rw [e]
    cases h : bytesBefore (dat f.name) (dat g.name) with
    | true => simp
    | false => simp [ih]
theorem mapD_del (F : List FZ) (s : ByteArray) : (mapD F).del (.string (dat s)) = mapD (dropF F s) := by
  show DataW.map ((F.map ent).filter _) = DataW.map _
  rw [List.filter_map]; rfl
theorem mapD_put (F : List FZ) (f : FZ) : (mapD F).put (.string (dat f.name)) (.held f.val) = mapD (putF F f) := by
  show DataW.map (DataW.insert (ent f) ((F.map ent).filter _)) = DataW.map _
  rw [List.filter_map, ins_ent]; rfl
theorem mapD_at (F : List FZ) (s : ByteArray) (z : DataW Value) : (mapD F).atKey (.string (dat s)) z = match lookF F s with | some f => .held f.val | none => z := by
  unfold mapD DataW.atKey lookF
  simp only [List.find?_map]
  have e : ((fun p : Lit × DataW Value => p.1.sameKey (.string (dat s))) ∘ ent) = fun f => dat f.name == dat s := rfl
  rw [e]
  cases F.find? (fun f => dat f.name == dat s) <;> rfl
theorem mapD_has (F : List FZ) (s : ByteArray) : Maps.has (mapD F) (.string (dat s)) = (lookF F s).isSome := by
  show (F.map ent).any _ = _
  unfold lookF
  rw [List.any_map, List.isSome_find?]; rfl
theorem mapD_size (F : List FZ) : Maps.size (mapD F) = F.length := by show (F.map ent).length = _; simp
theorem look_name {F : List FZ} {s : ByteArray} {f : FZ} (h : lookF F s = some f) : f.name = s ∧ f ∈ F := by
  have h1 := List.find?_some h
  exact ⟨dat_inj (by simpa using h1), List.mem_of_find?_eq_some h⟩
theorem used_ins (f : FZ) : ∀ F : List FZ, usedF (insF f F) = f.n + usedF F := by
  intro F
  induction F with
  | nil => rfl
  | cons g F ih =>
    unfold insF
    split
    · simp [usedF]
    · simp only [usedF, List.map_cons, List.sum_cons] at ih ⊢
      omega
/-- The names are one each. -/
def oneEach (F : List FZ) : Prop := F.Pairwise fun f g => bytesBefore (dat f.name) (dat g.name) = true
theorem bb_irr : ∀ l : List UInt8, bytesBefore l l = false := by
  intro l
  induction l with
  | nil => rfl
  | cons a l ih => simp [bytesBefore, ih]
theorem bb_lt : ∀ a b : List UInt8, bytesBefore a b = true ↔ a < b := by
  intro a
  induction a with
  | nil => intro b; cases b with
    | nil => simp [bytesBefore]
    | cons y b => simp [bytesBefore]
  | cons x a ih => intro b; cases b with
    | nil => simp [bytesBefore]
    | cons y b =>
      rw [List.cons_lt_cons_iff]
      simp only [bytesBefore, Bool.or_eq_true, decide_eq_true_eq, Bool.and_eq_true, beq_iff_eq]
      rw [ih b]
theorem drop_none {F : List FZ} {s : ByteArray} (h : lookF F s = none) : dropF F s = F := by
  unfold lookF at h; unfold dropF
  rw [List.filter_eq_self]
  intro f hf
  have := List.find?_eq_none.1 h f hf
  simpa using this
theorem used_drop : ∀ {F : List FZ} {s : ByteArray}, oneEach F → usedF (dropF F s) + ((lookF F s).map FZ.n).getD 0 = usedF F := by
  intro F s h
  induction F with
  | nil => rfl
  | cons g F ih =>
    have hc := List.pairwise_cons.1 h
    by_cases e : dat g.name == dat s
    · have hl : lookF (g :: F) s = some g := by simp [lookF, e]
      have hn : lookF F s = none := by
        unfold lookF
        refine List.find?_eq_none.2 fun f hf => ?_
        have h1 := hc.1 f hf
        intro k
        simp at e k
        rw [e, k, bb_irr] at h1; cases h1
      have hd : dropF (g :: F) s = F := by
        have h2 := drop_none hn
        unfold dropF at h2 ⊢
        rw [List.filter_cons, if_neg (by simp at e ⊢; exact e)]; exact h2
      rw [hl, hd]; simp [usedF]; omega
    · have hl : lookF (g :: F) s = lookF F s := by simp [lookF, e]
      have hd : dropF (g :: F) s = g :: dropF F s := by
        unfold dropF
        rw [List.filter_cons, if_pos (by simpa using e)]
      rw [hl, hd]
      have := ih hc.2
      simp only [usedF, List.map_cons, List.sum_cons] at this ⊢
      omega
theorem one_drop {F : List FZ} (h : oneEach F) (s : ByteArray) : oneEach (dropF F s) := h.filter _
theorem mem_drop {F : List FZ} {s : ByteArray} {f : FZ} : f ∈ dropF F s ↔ f ∈ F ∧ f.name ≠ s := by
  unfold dropF
  rw [List.mem_filter]
  refine and_congr_right fun _ => ?_
  simp only [Bool.not_eq_true', beq_eq_false_iff_ne, ne_eq]
  exact not_congr ⟨dat_inj, fun e => by rw [e]⟩
theorem mem_ins {f g : FZ} : ∀ {F : List FZ}, g ∈ insF f F ↔ g = f ∨ g ∈ F := by
  intro F
  induction F with
  | nil => simp [insF]
  | cons x F ih =>
    unfold insF
    split
    · simp
    · rw [List.mem_cons, ih, List.mem_cons]
      exact ⟨fun h => by rcases h with h | h | h <;> simp [h], fun h => by rcases h with h | h | h <;> simp [h]⟩
theorem one_ins {f : FZ} : ∀ {F : List FZ}, oneEach F → (∀ g ∈ F, g.name ≠ f.name) → oneEach (insF f F) := by
  intro F
  induction F with
  | nil => intro _ _; exact List.pairwise_singleton _ _
  | cons x F ih =>
    intro h hn
    have hc := List.pairwise_cons.1 h
    unfold insF
    split
    · rename_i hb
      refine List.pairwise_cons.2 ⟨fun g hg => ?_, h⟩
      rcases List.mem_cons.1 hg with rfl | hg
      · exact hb
      · have h1 := (bb_lt _ _).1 hb
        have h2 := (bb_lt _ _).1 (hc.1 g hg)
        exact (bb_lt _ _).2 (List.lt_trans h1 h2)
    · rename_i hb
      refine List.pairwise_cons.2 ⟨fun g hg => ?_, ih hc.2 fun g hg => hn g (List.mem_cons_of_mem _ hg)⟩
      rcases mem_ins.1 hg with rfl | hg
      · have hne := hn x (List.mem_cons_self ..)
        rcases lt_tri x.name g.name with h1 | h1 | h1
        · exact (bb_lt _ _).2 h1
        · exact absurd h1 hne
        · exact absurd ((bb_lt _ _).2 h1) hb
      · exact hc.1 g hg
theorem one_put {F : List FZ} (h : oneEach F) (f : FZ) : oneEach (putF F f) := one_ins (one_drop h _) fun g hg => (mem_drop.1 hg).2
theorem mem_put {F : List FZ} {f g : FZ} : g ∈ putF F f ↔ g = f ∨ (g ∈ F ∧ g.name ≠ f.name) := by unfold putF; rw [mem_ins, mem_drop]
theorem used_put {F : List FZ} (h : oneEach F) (f : FZ) : usedF (putF F f) + ((lookF F f.name).map FZ.n).getD 0 = usedF F + f.n := by
  unfold putF
  rw [used_ins]
  have := used_drop (s := f.name) h
  omega
theorem len_ins (f : FZ) : ∀ F : List FZ, (insF f F).length = F.length + 1 := by
  intro F
  induction F with
  | nil => rfl
  | cons x F ih => unfold insF; split <;> simp [ih]
theorem len_drop (F : List FZ) (s : ByteArray) : (dropF F s).length ≤ F.length := List.length_filter_le _ _
theorem len_put (F : List FZ) (f : FZ) : (putF F f).length ≤ F.length + 1 := by unfold putF; rw [len_ins]; have := len_drop F f.name; omega
theorem look_some {F : List FZ} (h : oneEach F) {f : FZ} (hf : f ∈ F) : lookF F f.name = some f := by
  unfold lookF
  induction F with
  | nil => cases hf
  | cons x F ih =>
    have hc := List.pairwise_cons.1 h
    rcases List.mem_cons.1 hf with rfl | hf
    · simp
    · have : ¬ (dat x.name == dat f.name) := fun e => by
        have := hc.1 f hf
        simp at e
        rw [e, bb_irr] at this; cases this
      rw [List.find?_cons_of_neg (by simpa using this)]
      exact ih hc.2 hf
/-- A vault's cell and its map. -/
structure VZ where
  room : Nat
  armed : Bool
  fuse : Nat
  b : Nat
  F : List FZ
structure VCore (w : World) (a : Nat) (V : VZ) : Prop where
  blk : Blk w a 66 #[.int .i64 V.room, .int .i64 (usedF V.F : Int), .map (some V.b), .bool V.armed, .int .i64 V.fuse]
  map : ∃ n, w.ownsMap Tryd.prog 9 heldR V.b n (mapD V.F)
  one : oneEach V.F
  used : usedF V.F ≤ 16777216
  room : V.room ≤ 16777216
  fuse : V.fuse ≤ 9223372036854775807
  len : V.F.length ≤ 1000000
theorem VCore.la {w : World} {a : Nat} {V : VZ} (h : VCore w a V) : a < w.heap.size := h.blk.lt
theorem VCore.lb {w : World} {a : Nat} {V : VZ} (h : VCore w a V) : V.b < w.heap.size := by obtain ⟨n, hn⟩ := h.map; exact hn.lt
theorem VCore.ne {w : World} {a : Nat} {V : VZ} (h : VCore w a V) : a ≠ V.b := by
  obtain ⟨n, es, clock, hb, _⟩ := h.map
  intro e
  have := h.blk
  unfold Blk at this
  rw [e, hb] at this; cases this
theorem VCore.fr {w w' : World} {a : Nat} {V : VZ} {S : Nat → Prop} (h : VCore w a V) (hf : Fr S w w') (ha : ¬ S a) (hb : ¬ S V.b) : VCore w' a V :=
  { h with
    blk := (hf.block a h.la ha).trans h.blk
    map := by
      obtain ⟨n, es, clock, e, r⟩ := h.map
      exact ⟨n, es, clock, (hf.block V.b h.lb hb).trans e, r⟩ }
theorem VCore.below {w w' : World} {a : Nat} {V : VZ} (h : VCore w a V) (hb : Below w.heap.size w w') : VCore w' a V := h.fr (S := fun _ => False) (Fr.of_below hb) (fun h => h) (fun h => h)
end Go.Proofs.YthogafecplhckaaDoor
