/- A vault in memory: its cell, its files, and what stays. The vault's small acts: the fuse, a file in its place, a file gone. A file in its place; a file gone. begin; a new one; what is left; the fuse is set. -/
import Derived.Test.YthogafecplhckaaDoorVA
import Derived.StillTailTactics
namespace Go.Proofs.YthogafecplhckaaDoor
open Go.RowKit
set_option linter.unusedSimpArgs false
set_option linter.unusedVariables false
/-- What stays but in some blocks. -/
structure Fr (S : Nat → Prop) (w w' : World) : Prop where
  os : w'.os = w.os
  tape : w'.tape = w.tape
  output : w'.output = w.output
  size : w.heap.size ≤ w'.heap.size
  block : ∀ i, i < w.heap.size → ¬ S i → w'.heap[i]? = w.heap[i]?
theorem Fr.refl (S : Nat → Prop) (w : World) : Fr S w w := ⟨rfl, rfl, rfl, Nat.le_refl _, fun _ _ _ => rfl⟩
theorem Fr.trans {S : Nat → Prop} {w w1 w2 : World} (h : Fr S w w1) (k : Fr S w1 w2) : Fr S w w2 :=
  ⟨k.os.trans h.os, k.tape.trans h.tape, k.output.trans h.output, Nat.le_trans h.size k.size, fun i hi hs => (k.block i (Nat.lt_of_lt_of_le hi h.size) hs).trans (h.block i hi hs)⟩
theorem Fr.mono {S S' : Nat → Prop} {w w' : World} (h : Fr S w w') (hs : ∀ i, i < w.heap.size → S i → S' i) : Fr S' w w' :=
  ⟨h.os, h.tape, h.output, h.size, fun i hi k => h.block i hi fun hS => k (hs i hi hS)⟩
theorem Fr.of_below {w w' : World} {S : Nat → Prop} (h : Below w.heap.size w w') : Fr S w w' := ⟨h.os, h.tape, h.output, h.size, fun i hi _ => h.block i hi⟩
theorem Fr.of_grown {w w' : World} {row : Option Nat} (h : w.grownBy w' row) : Fr (fun i => row = some i) w w' := ⟨h.os, h.tape, h.output, h.size, fun i hi hs => h.block i hi fun e => hs e.symm⟩
theorem Fr.below {w w' : World} {S : Nat → Prop} {B : Nat} (h : Fr S w w') (hb : B ≤ w.heap.size) (hs : ∀ i, S i → B ≤ i) : Below B w w' := ⟨h.os, h.tape, h.output, h.size, fun i hi => h.block i (by omega) fun k => by have := hs i k; omega⟩
theorem Fr.drew {w w' : World} {S : Nat → Prop} (h : Fr S w w') (n : Nat) : Fr S w (w'.drewN n) := ⟨h.os, h.tape, h.output, h.size, h.block⟩
theorem Fr.set_ {w w' : World} {S : Nat → Prop} (h : Fr S w w') {a o : Nat} (hs : S a ∨ w.heap.size ≤ a) (v : Value) : Fr S w (w'.setCell ⟨a, o, none⟩ v) :=
  ⟨h.os, h.tape, h.output, by simpa [World.setCell] using h.size, fun i hi k => by
    rw [← h.block i hi k]
    refine Below.heap_setCell w' ⟨a, o, none⟩ v i ?_
    intro e; simp at e; subst e
    rcases hs with hs | hs
    · exact k hs
    · omega⟩
theorem Fr.alloc {w w' : World} {S : Nat → Prop} (h : Fr S w w') (o : Obj) : Fr S w (w'.alloc o) :=
  ⟨h.os, h.tape, h.output, by have := h.size; simp; omega, fun i hi k => by
    rw [← h.block i hi k]
    exact Below.heap_alloc _ _ _ (Nat.lt_of_lt_of_le hi h.size)⟩
/-- A file as it stands in the map: a name, a slice, how many bytes are safe; its bytes. -/
structure FZ where
  name : ByteArray
  A : Option Addr
  n : Nat
  c : Nat
  safe : Nat
  bs : List Int
def FZ.val (f : FZ) : Value := .agg #[.slice f.A f.n f.c, .int .i64 f.safe]
def heldR (v : Value) : Option (DataW Value × List MemPlace) := some (.held v, [])
def ent (f : FZ) : Lit × DataW Value := (.string (dat f.name), .held f.val)
def mapD (F : List FZ) : DataW Value := .map (F.map ent)
def insF (f : FZ) : List FZ → List FZ
  | [] => [f]
  | g :: r => if bytesBefore (dat f.name) (dat g.name) then f :: g :: r else g :: insF f r
def dropF (F : List FZ) (s : ByteArray) : List FZ := F.filter fun f => !(dat f.name == dat s)
def putF (F : List FZ) (f : FZ) : List FZ := insF f (dropF F f.name)
def lookF (F : List FZ) (s : ByteArray) : Option FZ := F.find? fun f => dat f.name == dat s
def usedF (F : List FZ) : Nat := (F.map FZ.n).sum
theorem ins_ent (f : FZ) : ∀ F : List FZ, DataW.insert (ent f) (F.map ent) = (insF f F).map ent := by
  intro F
  induction F with
  | nil => rfl
  | cons g F ih =>
    show (if (ent f).1.before (ent g).1 then _ else _) = _
    unfold insF
    have e : (ent f).1.before (ent g).1 = bytesBefore (dat f.name) (dat g.name) := rfl
    rw [e]
    cases h : bytesBefore (dat f.name) (dat g.name) with
    | true => simp
    | false => simp [ih]
theorem mapD_del (F : List FZ) (s : ByteArray) : (mapD F).del (.string (dat s)) = mapD (dropF F s) := by
  show DataW.map ((F.map ent).filter _) = DataW.map _
  rw [List.filter_map]; rfl
theorem mapD_put (F : List FZ) (f : FZ) : (mapD F).put (.string (dat f.name)) (.held f.val) = mapD (putF F f) := by
  show DataW.map (DataW.insert (ent f) ((F.map ent).filter _)) = DataW.map _
  rw [List.filter_map, ins_ent]; rfl
theorem mapD_at (F : List FZ) (s : ByteArray) (z : DataW Value) : (mapD F).atKey (.string (dat s)) z = match lookF F s with | some f => .held f.val | none => z := by
  unfold mapD DataW.atKey lookF
  simp only [List.find?_map]
  have e : ((fun p : Lit × DataW Value => p.1.sameKey (.string (dat s))) ∘ ent) = fun f => dat f.name == dat s := rfl
  rw [e]
  cases F.find? (fun f => dat f.name == dat s) <;> rfl
theorem mapD_has (F : List FZ) (s : ByteArray) : Maps.has (mapD F) (.string (dat s)) = (lookF F s).isSome := by
  show (F.map ent).any _ = _
  unfold lookF
  rw [List.any_map, List.isSome_find?]; rfl
theorem mapD_size (F : List FZ) : Maps.size (mapD F) = F.length := by show (F.map ent).length = _; simp
theorem look_name {F : List FZ} {s : ByteArray} {f : FZ} (h : lookF F s = some f) : f.name = s ∧ f ∈ F := by
  have h1 := List.find?_some h
  exact ⟨dat_inj (by simpa using h1), List.mem_of_find?_eq_some h⟩
theorem used_ins (f : FZ) : ∀ F : List FZ, usedF (insF f F) = f.n + usedF F := by
  intro F
  induction F with
  | nil => rfl
  | cons g F ih =>
    unfold insF
    split
    · simp [usedF]
    · simp only [usedF, List.map_cons, List.sum_cons] at ih ⊢
      omega
/-- The names are one each. -/
def oneEach (F : List FZ) : Prop := F.Pairwise fun f g => bytesBefore (dat f.name) (dat g.name) = true
theorem bb_irr : ∀ l : List UInt8, bytesBefore l l = false := by
  intro l
  induction l with
  | nil => rfl
  | cons a l ih => simp [bytesBefore, ih]
theorem bb_lt : ∀ a b : List UInt8, bytesBefore a b = true ↔ a < b := by
  intro a
  induction a with
  | nil => intro b; cases b with
    | nil => simp [bytesBefore]
    | cons y b => simp [bytesBefore]
  | cons x a ih => intro b; cases b with
    | nil => simp [bytesBefore]
    | cons y b =>
      rw [List.cons_lt_cons_iff]
      simp only [bytesBefore, Bool.or_eq_true, decide_eq_true_eq, Bool.and_eq_true, beq_iff_eq]
      rw [ih b]
theorem drop_none {F : List FZ} {s : ByteArray} (h : lookF F s = none) : dropF F s = F := by
  unfold lookF at h; unfold dropF
  rw [List.filter_eq_self]
  intro f hf
  have := List.find?_eq_none.1 h f hf
  simpa using this
theorem used_drop : ∀ {F : List FZ} {s : ByteArray}, oneEach F → usedF (dropF F s) + ((lookF F s).map FZ.n).getD 0 = usedF F := by
  intro F s h
  induction F with
  | nil => rfl
  | cons g F ih =>
    have hc := List.pairwise_cons.1 h
    by_cases e : dat g.name == dat s
    · have hl : lookF (g :: F) s = some g := by simp [lookF, e]
      have hn : lookF F s = none := by
        unfold lookF
        refine List.find?_eq_none.2 fun f hf => ?_
        have h1 := hc.1 f hf
        intro k
        simp at e k
        rw [e, k, bb_irr] at h1; cases h1
      have hd : dropF (g :: F) s = F := by
        have h2 := drop_none hn
        unfold dropF at h2 ⊢
        rw [List.filter_cons, if_neg (by simp at e ⊢; exact e)]; exact h2
      rw [hl, hd]; simp [usedF]; omega
    · have hl : lookF (g :: F) s = lookF F s := by simp [lookF, e]
      have hd : dropF (g :: F) s = g :: dropF F s := by
        unfold dropF
        rw [List.filter_cons, if_pos (by simpa using e)]
      rw [hl, hd]
      have := ih hc.2
      simp only [usedF, List.map_cons, List.sum_cons] at this ⊢
      omega
theorem one_drop {F : List FZ} (h : oneEach F) (s : ByteArray) : oneEach (dropF F s) := h.filter _
theorem mem_drop {F : List FZ} {s : ByteArray} {f : FZ} : f ∈ dropF F s ↔ f ∈ F ∧ f.name ≠ s := by
  unfold dropF
  rw [List.mem_filter]
  refine and_congr_right fun _ => ?_
  simp only [Bool.not_eq_true', beq_eq_false_iff_ne, ne_eq]
  exact not_congr ⟨dat_inj, fun e => by rw [e]⟩
theorem mem_ins {f g : FZ} : ∀ {F : List FZ}, g ∈ insF f F ↔ g = f ∨ g ∈ F := by
  intro F
  induction F with
  | nil => simp [insF]
  | cons x F ih =>
    unfold insF
    split
    · simp
    · rw [List.mem_cons, ih, List.mem_cons]
      exact ⟨fun h => by rcases h with h | h | h <;> simp [h], fun h => by rcases h with h | h | h <;> simp [h]⟩
theorem one_ins {f : FZ} : ∀ {F : List FZ}, oneEach F → (∀ g ∈ F, g.name ≠ f.name) → oneEach (insF f F) := by
  intro F
  induction F with
  | nil => intro _ _; exact List.pairwise_singleton _ _
  | cons x F ih =>
    intro h hn
    have hc := List.pairwise_cons.1 h
    unfold insF
    split
    · rename_i hb
      refine List.pairwise_cons.2 ⟨fun g hg => ?_, h⟩
      rcases List.mem_cons.1 hg with rfl | hg
      · exact hb
      · have h1 := (bb_lt _ _).1 hb
        have h2 := (bb_lt _ _).1 (hc.1 g hg)
        exact (bb_lt _ _).2 (List.lt_trans h1 h2)
    · rename_i hb
      refine List.pairwise_cons.2 ⟨fun g hg => ?_, ih hc.2 fun g hg => hn g (List.mem_cons_of_mem _ hg)⟩
      rcases mem_ins.1 hg with rfl | hg
      · have hne := hn x (List.mem_cons_self ..)
        rcases lt_tri x.name g.name with h1 | h1 | h1
        · exact (bb_lt _ _).2 h1
        · exact absurd h1 hne
        · exact absurd ((bb_lt _ _).2 h1) hb
      · exact hc.1 g hg
theorem one_put {F : List FZ} (h : oneEach F) (f : FZ) : oneEach (putF F f) := one_ins (one_drop h _) fun g hg => (mem_drop.1 hg).2
theorem mem_put {F : List FZ} {f g : FZ} : g ∈ putF F f ↔ g = f ∨ (g ∈ F ∧ g.name ≠ f.name) := by unfold putF; rw [mem_ins, mem_drop]
theorem used_put {F : List FZ} (h : oneEach F) (f : FZ) : usedF (putF F f) + ((lookF F f.name).map FZ.n).getD 0 = usedF F + f.n := by
  unfold putF
  rw [used_ins]
  have := used_drop (s := f.name) h
  omega
theorem len_ins (f : FZ) : ∀ F : List FZ, (insF f F).length = F.length + 1 := by
  intro F
  induction F with
  | nil => rfl
  | cons x F ih => unfold insF; split <;> simp [ih]
theorem len_drop (F : List FZ) (s : ByteArray) : (dropF F s).length ≤ F.length := List.length_filter_le _ _
theorem len_put (F : List FZ) (f : FZ) : (putF F f).length ≤ F.length + 1 := by unfold putF; rw [len_ins]; have := len_drop F f.name; omega
theorem look_some {F : List FZ} (h : oneEach F) {f : FZ} (hf : f ∈ F) : lookF F f.name = some f := by
  unfold lookF
  induction F with
  | nil => cases hf
  | cons x F ih =>
    have hc := List.pairwise_cons.1 h
    rcases List.mem_cons.1 hf with rfl | hf
    · simp
    · have : ¬ (dat x.name == dat f.name) := fun e => by
        have := hc.1 f hf
        simp at e
        rw [e, bb_irr] at this; cases this
      rw [List.find?_cons_of_neg (by simpa using this)]
      exact ih hc.2 hf
/-- A vault's cell and its map. -/
structure VZ where
  room : Nat
  armed : Bool
  fuse : Nat
  b : Nat
  F : List FZ
structure VCore (w : World) (a : Nat) (V : VZ) : Prop where
  blk : Blk w a 66 #[.int .i64 V.room, .int .i64 (usedF V.F : Int), .map (some V.b), .bool V.armed, .int .i64 V.fuse]
  map : ∃ n, w.ownsMap Tryd.prog 9 heldR V.b n (mapD V.F)
  one : oneEach V.F
  used : usedF V.F ≤ 16777216
  room : V.room ≤ 16777216
  fuse : V.fuse ≤ 9223372036854775807
  len : V.F.length ≤ 1000000
theorem VCore.la {w : World} {a : Nat} {V : VZ} (h : VCore w a V) : a < w.heap.size := h.blk.lt
theorem VCore.lb {w : World} {a : Nat} {V : VZ} (h : VCore w a V) : V.b < w.heap.size := by obtain ⟨n, hn⟩ := h.map; exact hn.lt
theorem VCore.ne {w : World} {a : Nat} {V : VZ} (h : VCore w a V) : a ≠ V.b := by
  obtain ⟨n, es, clock, hb, _⟩ := h.map
  intro e
  have := h.blk
  unfold Blk at this
  rw [e, hb] at this; cases this
theorem VCore.fr {w w' : World} {a : Nat} {V : VZ} {S : Nat → Prop} (h : VCore w a V) (hf : Fr S w w') (ha : ¬ S a) (hb : ¬ S V.b) : VCore w' a V :=
  { h with
    blk := (hf.block a h.la ha).trans h.blk
    map := by
      obtain ⟨n, es, clock, e, r⟩ := h.map
      exact ⟨n, es, clock, (hf.block V.b h.lb hb).trans e, r⟩ }
theorem VCore.below {w w' : World} {a : Nat} {V : VZ} (h : VCore w a V) (hb : Below w.heap.size w w') : VCore w' a V := h.fr (S := fun _ => False) (Fr.of_below hb) (fun h => h) (fun h => h)
end Go.Proofs.YthogafecplhckaaDoor
namespace Go.Proofs.YthogafecplhckaaDoor
open Go.RowKit Go.Maps
set_option linter.unusedSimpArgs false
set_option linter.unusedVariables false
def lkF (F : List FZ) (s : ByteArray) : FZ := (lookF F s).getD ⟨s, none, 0, 0, 0, []⟩
theorem keyed9 : Keyed Tryd.prog 9 := string_keyed Tryd.underlying9
theorem zero63 (w : World) : (zeroValue 70).run Tryd.prog w = .ok (.agg #[.slice none 0 0, .int .i64 0]) w := by kernel_rfl
theorem at_lk (F : List FZ) (s : ByteArray) : (mapD F).atKey (.string (dat s)) (.held (.agg #[.slice none 0 0, .int .i64 0])) = .held (lkF F s).val := by
  rw [mapD_at]; unfold lkF
  cases lookF F s <;> rfl
theorem look_run {w : World} {a : Nat} {V : VZ} (h : VCore w a V) (s : ByteArray) (hs : s.size ≤ 9223372036854775807) (m : Nat) :
    (Instr.lookup 64 (.map (some V.b)) (.string s) false).run Tryd.prog (w.drewN m) = .ok (lkF V.F s).val (w.drewN m) ∧ (Instr.lookup 64 (.map (some V.b)) (.string s) true).run Tryd.prog (w.drewN m) = .ok (.tuple #[(lkF V.F s).val, .bool (lookF V.F s).isSome]) (w.drewN m) := by
  obtain ⟨n, hn⟩ := h.map
  have hn' : (w.drewN m).ownsMap Tryd.prog 9 heldR V.b n (mapD V.F) := hn
  have hk : keyOf Tryd.prog 9 (.string s) = some (.string (dat s)) := Go.WideMaps.keyOf_string_mk Tryd.underlying9 (by unfold maxLen; omega)
  constructor
  · obtain ⟨v, ps, hr, hv⟩ := hn'.lookup (t := 64) (e := 70) keyed9 Tryd.underlying64 (zero63 _) (zd := .held (.agg #[.slice none 0 0, .int .i64 0])) (zp := []) rfl hk
    rw [at_lk] at hv
    unfold heldR at hv
    cases hv
    exact hr
  · obtain ⟨v, ps, hr, hv⟩ := hn'.look_ok (t := 64) (e := 70) keyed9 Tryd.underlying64 (zero63 _) (zd := .held (.agg #[.slice none 0 0, .int .i64 0])) (zp := []) rfl hk
    rw [at_lk] at hv
    unfold heldR at hv
    cases hv
    rw [← mapD_has]
    exact hr
def actZ (V : VZ) : VZ := if V.armed = true ∧ 0 < V.fuse then { V with fuse := V.fuse - 1 } else V
def brkZ (V : VZ) : Bool := V.armed && V.fuse == 0
def errZ (V : VZ) : Int := if brkZ (actZ V) then 272 else 0
theorem VCore.set {w : World} {a : Nat} {V : VZ} (h : VCore w a V) (i : Nat) (v : Value) (V' : VZ) (hc : #[Value.int .i64 V.room, .int .i64 (usedF V.F : Int), .map (some V.b), .bool V.armed, .int .i64 V.fuse].setIfInBounds i v = #[.int .i64 V'.room, .int .i64 (usedF V'.F : Int), .map (some V'.b), .bool V'.armed, .int .i64 V'.fuse])
    (hb : V'.b = V.b) (hF : V'.F = V.F) (hr : V'.room ≤ 16777216) (hf : V'.fuse ≤ 9223372036854775807) : VCore (w.setCell ⟨a, i, none⟩ v) a V' := by
  have hfr : Fr (fun j => j = a) w (w.setCell ⟨a, i, none⟩ v) := (Fr.refl (fun j => j = a) w).set_ (.inl (show a = a from rfl)) v
  refine ⟨?_, ?_, by rw [hF]; exact h.one, by rw [hF]; exact h.used, hr, hf, by rw [hF]; exact h.len⟩
  · have := h.blk.set_ i v; rw [hc] at this; exact this
  · obtain ⟨n, es, clock, e, r⟩ := h.map
    refine ⟨n, es, clock, ?_, by rw [hF]; exact r⟩
    rw [hb]
    exact (hfr.block V.b h.lb (fun e => h.ne e.symm)).trans e
set_option maxRecDepth 100000 in
set_option maxHeartbeats 4000000 in
theorem broken_any (a : Nat) (V : VZ) (w : World) (h : VCore w a V) : Calls Tryd.prog 17 #[.pointer (some ⟨a, 0, none⟩)] w fun e w' => e = .returned (.bool (brkZ V)) ∧ w = w' := by
  have c3 := h.blk.cell 3
  have c4 := h.blk.cell 4
  simp at c3 c4
  obtain ⟨x, hx⟩ : ∃ x, x = brkZ V := ⟨_, rfl⟩
  rw [← hx]
  have HX := Lib.hid hx
  clear hx h
  obtain ⟨room, armed, fuse, b, F⟩ := V
  simp only at c3 c4
  cases armed with
  | false =>
    obtain rfl : x = false := HX.out
    go_enter Tryd.func17, Tryd.ntmps17
    go_wp2_with fail
    go_ret
    exact ⟨rfl, rfl⟩
  | true =>
    cases fuse with
    | zero =>
      obtain rfl : x = true := HX.out
      go_enter Tryd.func17, Tryd.ntmps17
      go_wp2_with fail
      go_ret
      exact ⟨rfl, rfl⟩
    | succ k =>
      obtain rfl : x = false := HX.out
      have k1 : (((k + 1 : Nat) : Int) == 0) = false := by simp; omega
      go_enter Tryd.func17, Tryd.ntmps17
      go_wp2_with fail
      go_ret
      exact ⟨rfl, rfl⟩
def ActPost (w : World) (a : Nat) (V : VZ) (e : Ending) (w' : World) : Prop := e = .returned (.int .i64 (errZ V)) ∧ VCore w' a (actZ V) ∧ Fr (fun i => i = a) w w'
set_option maxRecDepth 100000 in
set_option maxHeartbeats 4000000 in
theorem act_any (a : Nat) (V : VZ) (w : World) (h : VCore w a V) : Calls Tryd.prog 27 #[.pointer (some ⟨a, 0, none⟩)] w (ActPost w a V) := by
  have c3 := h.blk.cell 3
  have c4 := h.blk.cell 4
  have f4 := h.blk.frozen 4
  have hfu := h.fuse
  simp at c3 c4
  obtain ⟨V', hV'⟩ : ∃ V', V' = actZ V := ⟨_, rfl⟩
  obtain ⟨x, hx⟩ : ∃ x, x = brkZ V' := ⟨_, rfl⟩
  have HV := Lib.hid hV'
  have HX := Lib.hid hx
  have HE := Lib.hid (show errZ V = if x then 272 else 0 by unfold errZ; rw [hx, hV'])
  clear hx hV'
  have HH := Lib.hid h
  clear h
  obtain ⟨room, armed, fuse, b, F⟩ := V
  simp only at c3 c4 hfu
  by_cases hc : armed = true ∧ 0 < fuse
  case pos =>
    obtain ⟨rfl, hpos⟩ := hc
    obtain ⟨k, rfl⟩ : ∃ k, fuse = k + 1 := ⟨fuse - 1, by omega⟩
    have hv' : V' = ⟨room, true, k, b, F⟩ := by rw [HV.out]; unfold actZ; simp
    have HC := Lib.hid (HH.out.set 4 (.int .i64 (k : Int)) ⟨room, true, k, b, F⟩ rfl rfl rfl HH.out.room (by show k ≤ _; omega))
    have HBR := Lib.hid (show x = brkZ ⟨room, true, k, b, F⟩ by rw [HX.out, hv'])
    have HV2 := Lib.hid hv'
    have hk1 : ((k + 1 : Nat) : Int) - 1 = (k : Int) := by omega
    have hk2 : (0 : Int) < ((k + 1 : Nat) : Int) := by omega
    obtain ⟨w1, hw1⟩ : ∃ w1, w1 = w.setCell ⟨a, 4, none⟩ (.int .i64 (k : Int)) := ⟨_, rfl⟩
    have HW := Lib.hid hw1
    have HFR := Lib.hid (show Fr (fun i => i = a) w w1 by rw [hw1]; exact (Fr.refl (fun j => j = a) _).set_ (.inl (show a = a from rfl)) _)
    rw [← hw1] at HC
    have HB := Lib.hid (broken_any a _ w1 HC.out)
    clear hw1 hv' HX HV HH
    go_enter Tryd.func27, Tryd.ntmps27
    go_upto_region 2 with fail
    go_upto_region 3 with fail
    rw [← HW.out]
    cases x with
    | true =>
      have hb := HBR.out.symm
      rw [hb] at HB
      go_wp2_with (go_at_call 17; refine HB.out.mono ?_; rintro e w2 ⟨rfl, rfl⟩)
      go_ret
      exact ⟨by rw [HE.out]; rfl, by rw [show actZ ⟨room, true, k + 1, b, F⟩ = ⟨room, true, k, b, F⟩ by unfold actZ; simp]; exact HC.out, HFR.out⟩
    | false =>
      have hb := HBR.out.symm
      rw [hb] at HB
      go_wp2_with (go_at_call 17; refine HB.out.mono ?_; rintro e w2 ⟨rfl, rfl⟩)
      go_ret
      exact ⟨by rw [HE.out]; rfl, by rw [show actZ ⟨room, true, k + 1, b, F⟩ = ⟨room, true, k, b, F⟩ by unfold actZ; simp]; exact HC.out, HFR.out⟩
  case neg =>
    have hv : actZ ⟨room, armed, fuse, b, F⟩ = ⟨room, armed, fuse, b, F⟩ := by unfold actZ; rw [if_neg hc]
    have HV2 := Lib.hid hv
    have HB := Lib.hid (broken_any a _ w HH.out)
    have HBR := Lib.hid (show x = brkZ ⟨room, armed, fuse, b, F⟩ by rw [HX.out, HV.out, hv])
    have hcc : armed = false ∨ (armed = true ∧ fuse = 0) := by cases armed <;> simp at hc ⊢; omega
    clear hv HX HV hc
    rcases hcc with rfl | ⟨rfl, rfl⟩
    · obtain rfl : x = false := HBR.out
      go_enter Tryd.func27, Tryd.ntmps27
      go_wp2_with (go_at_call 17; refine HB.out.mono ?_; rintro e w2 ⟨rfl, rfl⟩)
      go_ret
      exact ⟨by rw [HE.out]; rfl, by rw [HV2.out]; exact HH.out, Fr.refl _ _⟩
    · obtain rfl : x = true := HBR.out
      go_enter Tryd.func27, Tryd.ntmps27
      go_wp2_with (go_at_call 17; refine HB.out.mono ?_; rintro e w2 ⟨rfl, rfl⟩)
      go_ret
      exact ⟨by rw [HE.out]; rfl, by rw [HV2.out]; exact HH.out, Fr.refl _ _⟩
end Go.Proofs.YthogafecplhckaaDoor
namespace Go.Proofs.YthogafecplhckaaDoor
open Go.RowKit Go.Maps
set_option linter.unusedSimpArgs false
set_option linter.unusedVariables false
theorem lk_n {V : VZ} (s : ByteArray) (h : oneEach V.F) : (lkF V.F s).n = ((lookF V.F s).map FZ.n).getD 0 := by
  unfold lkF; cases lookF V.F s <;> rfl
theorem lk_le {F : List FZ} (s : ByteArray) (h : oneEach F) : (lkF F s).n ≤ usedF F := by
  have := used_drop (s := s) h
  have e : (lkF F s).n = ((lookF F s).map FZ.n).getD 0 := by unfold lkF; cases lookF F s <;> rfl
  omega
theorem Fr.undrew {S : Nat → Prop} {w w' : World} {n : Nat} (h : Fr S (w.drewN n) w') : Fr S w w' := ⟨h.os, h.tape, h.output, h.size, h.block⟩
theorem field63 (A : Option Addr) (n c safe : Nat) (w : World) : (Instr.field 70 (.agg #[.slice A n c, .int .i64 safe]) 0).run Tryd.prog w = .ok (.slice A n c) w := by kernel_rfl
def putZ (V : VZ) (f : FZ) : VZ := { V with F := putF V.F f }
def dropZ (V : VZ) (s : ByteArray) : VZ := { V with F := dropF V.F s }
def UpdPost (w : World) (a b : Nat) (V' : VZ) (e : Ending) (w' : World) : Prop := e = .returned (.tuple #[]) ∧ VCore w' a V' ∧ Fr (fun i => i = a ∨ i = b) w w'
set_option maxRecDepth 100000 in
set_option maxHeartbeats 8000000 in
theorem put_any (a : Nat) (V : VZ) (s : ByteArray) (A : Option Addr) (n c safe : Nat) (bs : List Int) (w : World) (h : VCore w a V) (hs : s.size ≤ 9223372036854775807) (hn : usedF V.F + n ≤ 16777216 + (lkF V.F s).n) (hl : V.F.length < 1000000) :
    Calls Tryd.prog 29 #[.pointer (some ⟨a, 0, none⟩), .string s, .agg #[.slice A n c, .int .i64 safe]] w (UpdPost w a V.b (putZ V ⟨s, A, n, c, safe, bs⟩)) := by
  obtain ⟨w1, hw1⟩ : ∃ w1, w1 = w.alloc (.cells #[.slice A n c, .int .i64 safe] 70) := ⟨_, rfl⟩
  have hb1 : Below w.heap.size w w1 := by rw [hw1]; exact bpush (Below.refl _ _) _
  have h1 := h.below hb1
  have HH := Lib.hid h
  have HBX := Lib.hid (show Blk w1 w.heap.size 70 #[.slice A n c, .int .i64 safe] by rw [hw1]; exact Blk.new _ _ _)
  have HLK := Lib.hid (fun m => (look_run h1 s hs m).1)
  have hle := lk_le s h.one
  have hup := used_put h.one ⟨s, A, n, c, safe, bs⟩
  have hlk : (lkF V.F s).n = ((lookF V.F s).map FZ.n).getD 0 := by unfold lkF; cases lookF V.F s <;> rfl
  obtain ⟨g, hg⟩ : ∃ g, g = lkF V.F s := ⟨_, rfl⟩
  rw [← hg] at hle hlk hn HLK
  have HU := Lib.hid (show (usedF V.F : Int) + ((n : Int) - (g.n : Int)) = (usedF (putF V.F ⟨s, A, n, c, safe, bs⟩) : Int) by simp only at hup; omega)
  have HU2 := Lib.hid (show usedF (putF V.F ⟨s, A, n, c, safe, bs⟩) ≤ 16777216 by simp only at hup; omega)
  clear hg hup hlk
  obtain ⟨nm, gA, gn, gc, gs, gb⟩ := g
  have HV1 := Lib.hid h1
  have c1 := h1.blk.cell 1
  have c2 := h1.blk.cell 2
  have f1 := h1.blk.frozen 1
  have hu := h1.used
  simp at c1 c2
  have b0 := HBX.out.cell 0
  have b1 := HBX.out.cell 1
  simp at b0 b1
  obtain ⟨uN, huN⟩ : ∃ u : Nat, u = usedF V.F := ⟨_, rfl⟩
  obtain ⟨uP, huP⟩ : ∃ u : Nat, u = usedF (putF V.F ⟨s, A, n, c, safe, bs⟩) := ⟨_, rfl⟩
  rw [← huN] at c1 HU hu hn hle
  rw [← huP] at HU HU2
  have hw_ : IntKind.i64.wrap ((n : Int) - (gn : Int)) = (n : Int) - (gn : Int) := IntWalk.i64_in _ (by simp only at hle hn; omega)
  have hw2 : IntKind.i64.wrap ((uN : Int) + ((n : Int) - (gn : Int))) = (uP : Int) := by
    have h5 : (uN : Int) + ((n : Int) - (gn : Int)) = (uP : Int) := HU.out
    have := HU2.out
    rw [h5]; exact IntWalk.i64_in _ (by omega)
  have HW1 := Lib.hid hw1
  have HUN := Lib.hid huN
  have HUP := Lib.hid huP
  have hlook : (Instr.lookup 64 (.map (some V.b)) (.string s) false).run Tryd.prog w1.drew = .ok (.agg #[.slice gA gn gc, .int .i64 gs]) w1.drew := HLK.out 1
  have hfld := field63 gA gn gc gs w1.drew
  clear hw1 h h1 huN huP hn hle hu
  go_enter Tryd.func29, Tryd.ntmps29
  go_upto_region 1 with fail
  rw [← HW1.out]
  go_still_tail 19, (by kernel_rfl)
  change wpList _ _ _ _ _ w1.drew
  go_upto_region 2 with fail
  obtain ⟨w2, hw2⟩ : ∃ w2, w2 = (w1.setCell ⟨a, 1, none⟩ (.int .i64 uP)).drew := ⟨_, rfl⟩
  have hf2 : Fr (fun i => i = a) w1 w2 := by rw [hw2]; exact ((Fr.refl (fun i => i = a) w1).set_ (.inl (show a = a from rfl)) _).drew 1
  have hk2 : Blk w2 a 66 #[.int .i64 V.room, .int .i64 (uP : Int), .map (some V.b), .bool V.armed, .int .i64 V.fuse] := by
    rw [hw2]; have := HV1.out.blk.set_ 1 (.int .i64 uP); exact this
  have hag : a ≠ w.heap.size := fun e => by have := HH.out.la; omega
  have hbx2 : Blk w2 w.heap.size 70 #[.slice A n c, .int .i64 safe] := (hf2.block _ HBX.out.lt (fun e => hag e.symm)).trans HBX.out
  obtain ⟨k, hom⟩ : ∃ k, w2.drew.ownsMap Tryd.prog 9 heldR V.b k (mapD V.F) ∧ k < maxLen := by
    obtain ⟨k, es, clock, e, hfit, hsz, hD⟩ := HV1.out.map
    have e2 : w2.drew.heap[V.b]? = some (.map es clock) := (hf2.block V.b HV1.out.lb (fun e => HV1.out.ne e.symm)).trans e
    have hes : es.size = V.F.length := by
      have h1 := congrArg Maps.size hD
      rw [mapD_size] at h1
      have h2 : Maps.size (DataW.map ((es.toList.map (Go.WideElems.rg Tryd.prog 9 heldR)).foldr DataW.insert [])) = es.size := by simp [Maps.size, length_sorted]
      omega
    exact ⟨es.size, ⟨es, clock, e2, hfit, Nat.le_refl _, hD⟩, by unfold maxLen; omega⟩
  have HOM := Lib.hid hom
  have hkey : keyOf Tryd.prog 9 (.string s) = some (.string (dat s)) := Go.WideMaps.keyOf_string_mk Tryd.underlying9 (by unfold maxLen; omega)
  have HKEY := Lib.hid hkey
  have HF2 := Lib.hid hf2
  have HK2 := Lib.hid hk2
  rw [← hw2]
  clear c1 c2 f1 b0 b1 hlook hfld hw_ hw2 hom hkey HLK hf2
  have c2 := hk2.cell 2
  have b0 := hbx2.cell 0
  have b1 := hbx2.cell 1
  simp at c2 b0 b1
  clear hbx2 hk2 hag
  go_still_tail 6, (by kernel_rfl)
  change wpList _ _ _ _ _ w2.drew
  (at_mapUpdate; refine wpList_mapUpdate_in _ rfl _ _ _ 64 rfl 9 70 keyed9 Tryd.underlying64 heldR V.b k (mapD V.F) rfl HOM.out.1 HOM.out.2 _ _ (.string (dat s)) rfl rfl HKEY.out (.held (.agg #[.slice A n c, .int .i64 safe])) [] rfl ?_; intro w3 hown3 hturn3)
  have HM3 := Lib.hid hown3
  have HT3 := Lib.hid hturn3.grown
  clear hown3 hturn3
  go_wp2_with fail
  go_end0
  have hF : Fr (fun i => i = a ∨ i = V.b) w w3 := by
    have h1 : Fr (fun i => i = a ∨ i = V.b) w w1 := Fr.of_below hb1
    have h2 : Fr (fun i => i = a ∨ i = V.b) w1 w2 := HF2.out.mono fun i _ h => .inl h
    have h3 : Fr (fun i => i = a ∨ i = V.b) w2 w3 := (Fr.undrew (n := 1) (Fr.of_grown HT3.out)).mono fun i _ h => Or.inr (by injection h with h; exact h.symm)
    exact (h1.trans h2).trans h3
  refine ⟨rfl, ⟨?_, ⟨k + 1, ?_⟩, one_put HH.out.one _, by show usedF (putF V.F ⟨s, A, n, c, safe, bs⟩) ≤ _; rw [← HUP.out]; exact HU2.out, HH.out.room, HH.out.fuse, ?_⟩, hF⟩
  · have e := HT3.out.block a (show a < w2.drew.heap.size from HK2.out.lt) (by intro e; injection e with e; exact HH.out.ne e)
    have := e.trans HK2.out
    rw [HUP.out] at this
    exact this
  · have h := HM3.out
    have e := mapD_put V.F ⟨s, A, n, c, safe, bs⟩
    simp only at e
    rw [show (DataW.held (FZ.val ⟨s, A, n, c, safe, bs⟩) : DataW Value) = .held (.agg #[.slice A n c, .int .i64 safe]) from rfl] at e
    rw [e] at h
    exact h
  · have := len_put V.F ⟨s, A, n, c, safe, bs⟩
    show (putF V.F ⟨s, A, n, c, safe, bs⟩).length ≤ _
    omega
end Go.Proofs.YthogafecplhckaaDoor
namespace Go.Proofs.YthogafecplhckaaDoor
open Go.RowKit Go.Maps
set_option linter.unusedSimpArgs false
set_option linter.unusedVariables false
theorem act_b (V : VZ) : (actZ V).b = V.b := by unfold actZ; split <;> rfl
theorem act_F (V : VZ) : (actZ V).F = V.F := by unfold actZ; split <;> rfl
theorem act_room (V : VZ) : (actZ V).room = V.room := by unfold actZ; split <;> rfl
def BeginPost (w : World) (a : Nat) (V : VZ) (s : ByteArray) (e : Ending) (w' : World) : Prop :=
  (lookF V.F s = none ∧ e = .returned (.tuple #[.agg #[.slice none 0 0, .int .i64 0], .int .i64 31]) ∧ Below w.heap.size w w') ∨
  (∃ f, lookF V.F s = some f ∧ e = .returned (.tuple #[f.val, .int .i64 (errZ V)]) ∧ VCore w' a (actZ V) ∧ Fr (fun i => i = a) w w')
set_option maxRecDepth 100000 in
set_option maxHeartbeats 8000000 in
theorem begin_any (a : Nat) (V : VZ) (s : ByteArray) (w : World) (h : VCore w a V) (hs : s.size ≤ 9223372036854775807) :
    Calls Tryd.prog 67 #[.pointer (some ⟨a, 0, none⟩), .string s] w (BeginPost w a V s) := by
  obtain ⟨w1, hw1⟩ : ∃ w1, w1 = w.alloc (.cells #[.slice none 0 0, .int .i64 0] 70) := ⟨_, rfl⟩
  have hb1 : Below w.heap.size w w1 := by rw [hw1]; exact bpush (Below.refl _ _) _
  have h1 := h.below hb1
  have hk4 : Blk w1 w.heap.size 70 #[.slice none 0 0, .int .i64 0] := by rw [hw1]; exact Blk.new _ _ _
  have hz1 : w1.heap.size = w.heap.size + 1 := by rw [hw1]; simp
  have hlook : (Instr.lookup 64 (.map (some V.b)) (.string s) true).run Tryd.prog w1 = .ok (.tuple #[(lkF V.F s).val, .bool (lookF V.F s).isSome]) w1 := (look_run h1 s hs 0).2
  have HW1 := Lib.hid hw1
  have HB1 := Lib.hid hb1
  have HH1 := Lib.hid h1
  have HK4 := Lib.hid hk4
  have HZ1 := Lib.hid hz1
  have c2 := h1.blk.cell 2
  simp at c2
  have hla := h.la
  have HLA := Lib.hid hla
  have HH := Lib.hid h
  cases hl : lookF V.F s with
  | none =>
    have hlk : lkF V.F s = ⟨s, none, 0, 0, 0, []⟩ := by unfold lkF; rw [hl]; rfl
    have HL := Lib.hid hl
    rw [hl, hlk] at hlook
    simp only [FZ.val, Option.isSome_none] at hlook
    have hlook2 : (Instr.lookup 64 (.map (some V.b)) (.string s) true).run Tryd.prog w1 = .ok (.tuple #[.agg #[.slice none 0 0, .int .i64 0], .bool false]) w1 := hlook
    clear hlook hl hlk hw1 hb1 h1 hk4 hz1 h hla
    go_enter Tryd.func67, Tryd.ntmps67
    go_upto_region 1 with fail
    rw [← HW1.out]
    go_upto_region 2 with fail
    obtain ⟨w2, hw2⟩ : ∃ w2, w2 = w1.alloc (.cells #[.slice none 0 0, .int .i64 0] 70) := ⟨_, rfl⟩
    have hb2 : Below w1.heap.size w1 w2 := by rw [hw2]; exact bpush (Below.refl _ _) _
    have HK4' := Lib.hid (HK4.out.below hb2 HK4.out.lt)
    have HB2 := Lib.hid (bthen HB1.out hb2)
    rw [← hw2]
    obtain ⟨w3, hw3⟩ : ∃ w3, w3 = (w2.setCell ⟨w.heap.size, 0, none⟩ (.slice none 0 0)).setCell ⟨w.heap.size, 1, none⟩ (.int .i64 0) := ⟨_, rfl⟩
    have HK43 := Lib.hid (show Blk w3 w.heap.size 70 #[.slice none 0 0, .int .i64 0] by rw [hw3]; exact (HK4'.out.set_ 0 _).set_ 1 _)
    have HB3 := Lib.hid (show Below w.heap.size w w3 by rw [hw3]; exact bset (bset HB2.out (Nat.le_refl _) _) (Nat.le_refl _) _)
    have z0 := HK4'.out.cell 0
    have z1 := HK4'.out.cell 1
    have f0 := HK4'.out.frozen 0
    have f1 := HK4'.out.frozen 1
    simp at z0 z1
    have HW3 := Lib.hid hw3
    clear hw2 hw3 hb2 hlook2 c2
    go_wp2_with fail
    rw [← HW3.out]
    have q0 := HK43.out.cell 0
    have q1 := HK43.out.cell 1
    simp at q0 q1
    refine bodyPost_ret (v := .tuple #[.agg #[.slice none 0 0, .int .i64 0], .int .i64 31]) (by simp [results, Tryd.results67, go_sem, q0, q1]) rfl (Or.inl ⟨HL.out, rfl, HB3.out⟩)
  | some f =>
    have hlk : lkF V.F s = f := by unfold lkF; rw [hl]; rfl
    have HL := Lib.hid hl
    rw [hl, hlk] at hlook
    simp only [FZ.val, Option.isSome_some] at hlook
    obtain ⟨nm, fA, fn, fc, fs, fb⟩ := f
    simp only at hlook
    clear hl hlk hw1 hb1 h1 hk4 hz1 h hla
    go_enter Tryd.func67, Tryd.ntmps67
    go_upto_region 1 with fail
    rw [← HW1.out]
    go_upto_region 2 with fail
    go_upto_region 4 with fail
    obtain ⟨w2, hw2⟩ : ∃ w2, w2 = w1.alloc (.cells #[.slice fA fn fc, .int .i64 fs] 70) := ⟨_, rfl⟩
    have hb2 : Below w1.heap.size w1 w2 := by rw [hw2]; exact bpush (Below.refl _ _) _
    have HK6 := Lib.hid (show Blk w2 w1.heap.size 70 #[.slice fA fn fc, .int .i64 fs] by rw [hw2]; exact Blk.new _ _ _)
    have HK4' := Lib.hid (HK4.out.below hb2 HK4.out.lt)
    have HH2 := Lib.hid (HH1.out.below hb2)
    have HB2 := Lib.hid (bthen HB1.out hb2)
    rw [← hw2]
    obtain ⟨g6, hg6⟩ : ∃ g6, g6 = w1.heap.size := ⟨_, rfl⟩
    rw [← hg6] at HK6 HZ1 ⊢
    clear hw2 hb2 hg6 hlook c2 HH1 HK4
    obtain ⟨wd, hwd⟩ : ∃ wd, wd = w2.drew := ⟨_, rfl⟩
    have hbd : Below w2.heap.size w2 wd := by rw [hwd]; exact below_drewN (Below.refl _ _) 1
    have hs0 : (fun w' => Blk w' g6 70 #[.slice fA fn fc, .int .i64 fs]) wd := HK6.out.below hbd HK6.out.lt
    have HHd := Lib.hid (HH2.out.below hbd)
    have HK4d := Lib.hid (HK4'.out.below hbd HK4'.out.lt)
    have HBd := Lib.hid (bthen HB2.out hbd)
    rw [hwd] at hs0
    refine wp_region_held_drew (S := fun w' => Blk w' g6 70 #[.slice fA fn fc, .int .i64 fs]) (by kernel_rfl) hs0 ?_
    intro hHeld
    rw [← hwd] at hHeld ⊢
    clear hwd hbd hs0 HH2 HK4'
    refine take_want (i := 0) (v := ?v0z) rfl (by kernel_rfl) (by kernel_rfl) (by kernel_rfl) (fun _ _ _ h => h) (by rfl) ?y0z (by assumption) ?r0z
    case y0z => (intro w hSw; have r0 := hSw.cell 0; have r1 := hSw.cell 1; simp at r0 r1; go_simp; all_goals with_reducible rfl)
    (try simp only [Act.put, List.setIfInBounds_toArray, List.set_cons_zero, List.set_cons_succ])
    refine take_want (i := 1) (v := ?v1z) rfl (by kernel_rfl) (by kernel_rfl) (by kernel_rfl) (fun _ _ _ h => h) (by rfl) ?y1z (by assumption) ?r1z
    case y1z => (intro w hSw; go_simp; all_goals with_reducible rfl)
    (try simp only [Act.put, List.setIfInBounds_toArray, List.set_cons_zero, List.set_cons_succ])
    refine wpAnyH_ready (rs := [2]) (by kernel_rfl) (by simp) ?_
    refine AllReadyH.cons rfl (fun K hK => ?_) AllReadyH.nil
    go_simp
    (go_at_call 27; refine (act_any a V _ HHd.out).mono ?_; rintro e V2 ⟨rfl, hv2, hf2⟩)
    have hs2 : Blk V2 g6 70 #[.slice fA fn fc, .int .i64 fs] := (hf2.block g6 hHeld.lt (fun e => by have := HLA.out; have := HZ1.out; omega)).trans hHeld
    have HV2 := Lib.hid hv2
    have HF2 := Lib.hid hf2
    have HK42 := Lib.hid (show Blk V2 w.heap.size 70 #[.slice none 0 0, .int .i64 0] from (hf2.block w.heap.size HK4d.out.lt (fun e => by have := HLA.out; omega)).trans HK4d.out)
    refine hK.out _ _ hs2 (fun hHeld => ?_)
    clear hK K
    (try simp only [Act.put, List.setIfInBounds_toArray, List.set_cons_zero, List.set_cons_succ])
    clear hv2 hf2 hs2 HHd HK4d
    have z0 := HK42.out.cell 0
    have z1 := HK42.out.cell 1
    have f0 := HK42.out.frozen 0
    have f1 := HK42.out.frozen 1
    simp at z0 z1
    obtain ⟨w3, hw3⟩ : ∃ w3, w3 = (V2.setCell ⟨w.heap.size, 0, none⟩ (.slice fA fn fc)).setCell ⟨w.heap.size, 1, none⟩ (.int .i64 fs) := ⟨_, rfl⟩
    have hne6 : g6 ≠ w.heap.size := by have := HZ1.out; omega
    have hs3 : Blk w3 g6 70 #[.slice fA fn fc, .int .i64 fs] := by rw [hw3]; exact (hHeld.far hne6 _).far hne6 _
    have HK43 := Lib.hid (show Blk w3 w.heap.size 70 #[.slice fA fn fc, .int .i64 fs] by rw [hw3]; exact (HK42.out.set_ 0 _).set_ 1 _)
    have hfr3 : Fr (fun i => i = w.heap.size) V2 w3 := by rw [hw3]; exact ((Fr.refl (fun i => i = w.heap.size) V2).set_ (.inl (show w.heap.size = w.heap.size from rfl)) _).set_ (.inl (show w.heap.size = w.heap.size from rfl)) _
    have HFR3 := Lib.hid hfr3
    have HW3 := Lib.hid hw3
    clear hw3 hfr3
    refine wpAnyH_ready (rs := [3]) (by kernel_rfl) (by simp) ?_
    refine AllReadyH.cons rfl (fun K hK => ?_) AllReadyH.nil
    go_simp
    rw [← HW3.out]
    refine hK.out _ _ hs3 (fun hHeld => ?_)
    clear hK K
    (try simp only [Act.put, List.setIfInBounds_toArray, List.set_cons_zero, List.set_cons_succ])
    clear z0 z1 f0 f1 hne6
    refine take_want (i := 4) (v := ?v4z) rfl (by kernel_rfl) (by kernel_rfl) (by kernel_rfl) (fun _ _ _ h => h) (by rfl) ?y4z (by assumption) ?r4z
    case y4z => (intro w hSw; go_simp; all_goals with_reducible rfl)
    (try simp only [Act.put, List.setIfInBounds_toArray, List.set_cons_zero, List.set_cons_succ])
    refine wpAnyH_done (by kernel_rfl) ?_ _
    go_wp2_with fail
    have q0 := HK43.out.cell 0
    have q1 := HK43.out.cell 1
    simp at q0 q1
    have hF : Fr (fun i => i = a) w w3 := by
      have h1 : Fr (fun i => i = a) w _ := Fr.of_below HBd.out
      have h2 := h1.trans HF2.out
      refine ⟨HFR3.out.os.trans h2.os, HFR3.out.tape.trans h2.tape, HFR3.out.output.trans h2.output, Nat.le_trans h2.size HFR3.out.size, fun i hi k => ?_⟩
      exact (HFR3.out.block i (Nat.lt_of_lt_of_le hi h2.size) (by omega)).trans (h2.block i hi k)
    have hva := HV2.out.fr HFR3.out (by have := HLA.out; omega) (by rw [act_b]; have := HH.out.lb; omega)
    refine bodyPost_ret (v := .tuple #[.agg #[.slice fA fn fc, .int .i64 fs], .int .i64 (errZ V)]) (by simp [results, Tryd.results67, go_sem, q0, q1]) rfl (Or.inr ⟨⟨nm, fA, fn, fc, fs, fb⟩, HL.out, rfl, hva, hF⟩)
end Go.Proofs.YthogafecplhckaaDoor
