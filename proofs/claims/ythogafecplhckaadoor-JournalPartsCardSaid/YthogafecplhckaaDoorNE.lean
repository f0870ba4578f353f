/- event (47). -/
import Derived.Test.YthogafecplhckaaDoorNCD
namespace Go.Proofs.YthogafecplhckaaDoor
open Go.RowKit Go.Lib
set_option linter.unusedSimpArgs false
set_option linter.unusedVariables false
theorem StW.under {w w' : World} {wb rb H : Nat} {s : StJ} (h : StW w wb rb s) (hb : Below H w w') (h1 : wb < H) (h2 : rb < H) : StW w' wb rb s := by
  obtain ⟨hw, bs, hq, hby, hs⟩ := h
  exact ⟨hw.below hb h1, bs, hq.under hb h2, hby, hs⟩
theorem StW.keep {w w' : World} {wb rb : Nat} {s : StJ} (h : StW w wb rb s) (hb : Below w.heap.size w w') : StW w' wb rb s := by
  have h1 := h.1.lt
  obtain ⟨bs, hq, _⟩ := h.2
  exact h.under hb h1 hq.lt
theorem own_far {w : World} {B g size n : Nat} {e : TypeId} {v : Value} {xs : List Value} (h : w.ownsRow B e size v n xs) (hb : v.ownBlock = some g) : B ≤ g := by
  rcases Nat.lt_or_ge g B with h1 | h1
  · exact absurd hb (own_apart h h1)
  · exact h1
theorem own_frJ {w w' : World} {B n : Nat} {e : TypeId} {v : Value} {xs : List Value} {S : Nat → Prop} (h : w.ownsRow B e 1 v n xs) (hf : Fr S w w') (hs : ∀ b, v.ownBlock = some b → ¬ S b) : w'.ownsRow B e 1 v n xs := by
  rcases h.2 with ⟨rfl, h0⟩ | ⟨g, cap, cur, rfl, h1, h2, h3, h4, h5, h6⟩
  · exact ⟨h.1, .inl ⟨rfl, h0⟩⟩
  · exact ⟨h.1, .inr ⟨g, cap, cur, rfl, h1, (hf.block g (lt_of_heap h2) (hs g rfl)).trans h2, h3, h4, h5, h6⟩⟩
theorem Fr.thenBelow {w1 w2 w5 : World} {S : Nat → Prop} {H : Nat} (h : Fr S w1 w2) (hb : Below H w2 w5) (hH : w1.heap.size ≤ H) (hs : w1.heap.size ≤ w5.heap.size) : Fr S w1 w5 :=
  ⟨hb.os.trans h.os, hb.tape.trans h.tape, hb.output.trans h.output, hs, fun i hi hn => (hb.block i (by omega)).trans (h.block i hi hn)⟩
/-- An event as it is being read: what is well, its own cells, its rows. -/
structure EvSt (w1 wr : World) (B wb rb e7 : Nat) (s : StJ) (t : Int) (E : Option Addr) (k q : Nat) (D : List ByteArray) (F : Option Addr) (l y : Nat) (X : List Int) : Prop where
  st : StW wr wb rb s
  blk : Blk wr e7 44 #[.int .i64 t, .slice E k q, .slice F l y]
  od : wr.ownsRow B 9 1 (.slice E k q) k (texts D)
  ox : wr.ownsRow B 3 1 (.slice F l y) l (intsV X)
  fr : Fr (fun i => i = rb ∨ i = wb) w1 wr
  kd : k = D.length
  lx : l = X.length
  wlt : wb < e7
  rlt : rb < e7
  elt : e7 < B
  old : w1.heap.size ≤ e7
  bsz : B ≤ wr.heap.size

theorem EvSt.moreD {w1 wr w2 w4 : World} {B wb rb e7 k l q y : Nat} {s s' : StJ} {t : Int} {E F : Option Addr} {D : List ByteArray} {X : List Int} {v4 : Value} {x : ByteArray}
    (h : EvSt w1 wr B wb rb e7 s t E k q D F l y X) (h2 : StW w2 wb rb s') (hf : Fr (fun i => i = rb ∨ i = wb) wr w2)
    (ho : w4.ownsRow B 9 1 v4 (k + 1) (texts D ++ [.string x])) (hg : (w2.alloc (.cells #[.string x] 9)).grownBy w4 (Value.ownBlock (.slice E k q))) :
    ∃ A' c', v4 = .slice A' (k + 1) c' ∧ EvSt w1 (w4.setCell ⟨e7, 1, none⟩ v4) B wb rb e7 s' t A' (k + 1) c' (D ++ [x]) F l y X := by
  obtain ⟨A', c', hv⟩ := own_is ho
  refine ⟨A', c', hv, ?_⟩
  have hab : Below w2.heap.size w2 (w2.alloc (.cells #[.string x] 9)) := bpush (Below.refl _ _) _
  have od2 : w2.ownsRow B 9 1 (.slice E k q) k (texts D) := own_frJ h.od hf (fun b hb e => by have := own_far h.od hb; have := h.rlt; have := h.wlt; have := h.elt; omega)
  have ox2 : w2.ownsRow B 3 1 (.slice F l y) l (intsV X) := own_frJ h.ox hf (fun b hb e => by have := own_far h.ox hb; have := h.rlt; have := h.wlt; have := h.elt; omega)
  have od3 := own_below od2 hab
  have ox3 := own_below ox2 hab
  have hb2 : Blk w2 e7 44 #[.int .i64 t, .slice E k q, .slice F l y] := (hf.block _ h.blk.lt (fun e => by have := h.rlt; have := h.wlt; omega)).trans h.blk
  have hBz : B ≤ (w2.alloc (.cells #[.string x] 9)).heap.size := Nat.le_trans (Nat.le_trans h.bsz hf.size) hab.size
  have hg4 : Below B (w2.alloc (.cells #[.string x] 9)) w4 := grown_own od3 hg hBz
  have hb4 : Blk w4 e7 44 #[.int .i64 t, .slice E k q, .slice F l y] := ((hb2.below hab hb2.lt).below hg4 h.elt)
  have hbe : Below e7 w2 (w4.setCell ⟨e7, 1, none⟩ v4) := ((hab.mono (Nat.le_of_lt hb2.lt)).trans (hg4.mono (Nat.le_of_lt h.elt))).setCell (p := ⟨e7, 1, none⟩) (Nat.le_refl _) v4
  have oo4 : w4.ownsRow B 3 1 (.slice F l y) l (intsV X) := ox3.kept hg (by
    rcases own_not_own ox3 od3 (by decide) with h9 | h9
    · exact .inl h9
    · exact .inr h9)
  have hln : (D ++ [x]).length = k + 1 := by rw [List.length_append, h.kd]; rfl
  refine ⟨h2.under hbe h.wlt h.rlt, ?_, ?_, ?_, ?_, ?_, ?_, h.wlt, h.rlt, h.elt, h.old, ?_⟩
  · have := hb4.set_ 1 v4; rw [hv] at this ⊢; simpa using this
  · have := own_set' (o := 1) (u := v4) ho (own_apart ho h.elt); rw [hv] at this ⊢; simpa [texts] using this
  · exact own_set' oo4 (own_apart oo4 h.elt)
  · exact (h.fr.trans hf).thenBelow hbe h.old (by have h1 := h.fr.size; have h3 := hf.size; have h4 := hbe.size; omega)
  · exact hln.symm
  · exact h.lx
  · have h1 := h.bsz; have h3 := hf.size; have h4 := hbe.size; omega

theorem EvSt.moreX {w1 wr w2 w4 : World} {B wb rb e7 k l q y : Nat} {s s' : StJ} {t : Int} {E F : Option Addr} {D : List ByteArray} {X : List Int} {v4 : Value} {x : Int}
    (h : EvSt w1 wr B wb rb e7 s t E k q D F l y X) (h2 : StW w2 wb rb s') (hf : Fr (fun i => i = rb ∨ i = wb) wr w2)
    (ho : w4.ownsRow B 3 1 v4 (l + 1) (intsV X ++ [.int .i64 x])) (hg : (w2.alloc (.cells #[.int .i64 x] 3)).grownBy w4 (Value.ownBlock (.slice F l y))) :
    ∃ A' c', v4 = .slice A' (l + 1) c' ∧ EvSt w1 (w4.setCell ⟨e7, 2, none⟩ v4) B wb rb e7 s' t E k q D A' (l + 1) c' (X ++ [x]) := by
  obtain ⟨A', c', hv⟩ := own_is ho
  refine ⟨A', c', hv, ?_⟩
  have hab : Below w2.heap.size w2 (w2.alloc (.cells #[.int .i64 x] 3)) := bpush (Below.refl _ _) _
  have od2 : w2.ownsRow B 9 1 (.slice E k q) k (texts D) := own_frJ h.od hf (fun b hb e => by have := own_far h.od hb; have := h.rlt; have := h.wlt; have := h.elt; omega)
  have ox2 : w2.ownsRow B 3 1 (.slice F l y) l (intsV X) := own_frJ h.ox hf (fun b hb e => by have := own_far h.ox hb; have := h.rlt; have := h.wlt; have := h.elt; omega)
  have od3 := own_below od2 hab
  have ox3 := own_below ox2 hab
  have hb2 : Blk w2 e7 44 #[.int .i64 t, .slice E k q, .slice F l y] := (hf.block _ h.blk.lt (fun e => by have := h.rlt; have := h.wlt; omega)).trans h.blk
  have hBz : B ≤ (w2.alloc (.cells #[.int .i64 x] 3)).heap.size := Nat.le_trans (Nat.le_trans h.bsz hf.size) hab.size
  have hg4 : Below B (w2.alloc (.cells #[.int .i64 x] 3)) w4 := grown_own ox3 hg hBz
  have hb4 : Blk w4 e7 44 #[.int .i64 t, .slice E k q, .slice F l y] := ((hb2.below hab hb2.lt).below hg4 h.elt)
  have hbe : Below e7 w2 (w4.setCell ⟨e7, 2, none⟩ v4) := ((hab.mono (Nat.le_of_lt hb2.lt)).trans (hg4.mono (Nat.le_of_lt h.elt))).setCell (p := ⟨e7, 2, none⟩) (Nat.le_refl _) v4
  have oo4 : w4.ownsRow B 9 1 (.slice E k q) k (texts D) := od3.kept hg (by
    rcases own_not_own od3 ox3 (by decide) with h9 | h9
    · exact .inl h9
    · exact .inr h9)
  have hln : (X ++ [x]).length = l + 1 := by rw [List.length_append, h.lx]; rfl
  refine ⟨h2.under hbe h.wlt h.rlt, ?_, ?_, ?_, ?_, ?_, ?_, h.wlt, h.rlt, h.elt, h.old, ?_⟩
  · have := hb4.set_ 2 v4; rw [hv] at this ⊢; simpa using this
  · exact own_set' oo4 (own_apart oo4 h.elt)
  · have := own_set' (o := 2) (u := v4) ho (own_apart ho h.elt); rw [hv] at this ⊢; simpa [intsV] using this
  · exact (h.fr.trans hf).thenBelow hbe h.old (by have h1 := h.fr.size; have h3 := hf.size; have h4 := hbe.size; omega)
  · exact h.kd
  · exact hln.symm
  · have h1 := h.bsz; have h3 := hf.size; have h4 := hbe.size; omega

theorem step_app1 {w : World} {o : Oper} {a : Act} {K : Act → World → Prop} {Q : Exit → Act → World → Prop} (s x : Operand) (t : TypeId)
    (ho : o.op = .call { callee := .builtin .append, args := #[s, x], argTypes := #[t, t] })
    (base : Nat) (e : TypeId) (i : TypeInfo) (z : Value) (bytes : Nat) (ht : Tryd.prog.underlying t = some (.slice e)) (hi : Tryd.prog.info? e = some i) (hz : i.zero = some z)
    (hsize : i.size = 1) (hby : i.bytes = bytes) (hzs : z.cells.size = 1)
    (v : Value) (n : Nat) (xs : List Value) (hs : a.eval s = v) (hown : w.ownsRow base e 1 v n xs)
    (ad : Addr) (u : Value) (hx : a.eval x = .slice (some ad) 1 1) (hu : ∀ j y, [u][j]? = some y → w.cell? (ad.add j) = some y) (h1 : u.oneCell' = true)
    (h63 : n + 1 ≤ 1000000) (hbytes : (n + 1) * bytes ≤ 140737488355328) (hbase : base ≤ w.heap.size)
    (h : ∀ v' w', w'.ownsRow base e 1 v' (n + 1) (xs ++ [u]) → w.grownBy w' v.ownBlock → K (a.put o.dst v') w') :
    o.wp Tryd.prog a w K Q := by
  obtain ⟨v', w', hr, h2, h3, h4, h5⟩ := run_append_own_at (P := Tryd.prog) w base t o.type e i z 1 bytes ht hi hz hsize hby hzs (by omega) v n xs hown ad 1 1 [u] (by simp) hu (by intro y hy; rw [List.mem_singleton.1 hy]; exact h1) (by unfold maxLen; omega) hbytes hbase
  unfold Oper.wp execOp
  simp only [ho, resolve, invoke, builtin, Sem.run_bind, Sem.run_pure, Result.andThen_ok, List.map_toArray, List.map_cons, List.map_nil, hs, hx, hr]
  exact h v' w' h2 h3
def EventP (w : World) (wb rb n m : Nat) (t : Int) (D : List ByteArray) (X : List Int) (s : StJ) (e : Ending) (w' : World) : Prop :=
  ∃ E q F y, e = .returned (.agg #[.int .i64 t, .slice E n q, .slice F m y]) ∧ w'.ownsRow w.heap.size 9 1 (.slice E n q) n (texts D) ∧ w'.ownsRow w.heap.size 3 1 (.slice F m y) m (intsV X) ∧ StW w' wb rb s ∧ Fr (fun i => i = rb ∨ i = wb) w w'
theorem EvSt.ownAtD {w1 wr w2 : World} {B wb rb e7 k l q y : Nat} {s : StJ} {t : Int} {E F : Option Addr} {D : List ByteArray} {X : List Int} {u : Value}
    (h : EvSt w1 wr B wb rb e7 s t E k q D F l y X) (hf : Fr (fun i => i = rb ∨ i = wb) wr w2) :
    (w2.alloc (.cells #[u] 9)).ownsRow B 9 1 (.slice E k q) k (texts D) ∧ B ≤ (w2.alloc (.cells #[u] 9)).heap.size := by
  have hab : Below w2.heap.size w2 (w2.alloc (.cells #[u] 9)) := bpush (Below.refl _ _) _
  exact ⟨own_below (own_frJ h.od hf (fun b hb e => by have := own_far h.od hb; have := h.rlt; have := h.wlt; have := h.elt; omega)) hab, Nat.le_trans (Nat.le_trans h.bsz hf.size) hab.size⟩
theorem EvSt.cellAtD {w1 wr w2 w4 : World} {B wb rb e7 k l q y : Nat} {s : StJ} {t : Int} {E F : Option Addr} {D : List ByteArray} {X : List Int} {u : Value}
    (h : EvSt w1 wr B wb rb e7 s t E k q D F l y X) (hf : Fr (fun i => i = rb ∨ i = wb) wr w2) (hg : (w2.alloc (.cells #[u] 9)).grownBy w4 (Value.ownBlock (.slice E k q))) :
    w4.cell? ⟨e7, 1, none⟩ = some (.slice E k q) ∧ w4.frozen? ⟨e7, 1, none⟩ = false := by
  have hab : Below w2.heap.size w2 (w2.alloc (.cells #[u] 9)) := bpush (Below.refl _ _) _
  have hb2 : Blk w2 e7 44 #[.int .i64 t, .slice E k q, .slice F l y] := (hf.block _ h.blk.lt (fun e => by have := h.rlt; have := h.wlt; omega)).trans h.blk
  have hg4 := grown_own (h.ownAtD (u := u) hf).1 hg (h.ownAtD (u := u) hf).2
  have hb4 : Blk w4 e7 44 #[.int .i64 t, .slice E k q, .slice F l y] := ((hb2.below hab hb2.lt).below hg4 h.elt)
  exact ⟨by rw [hb4.cell 1]; rfl, hb4.frozen 1⟩
theorem EvSt.ownAtX {w1 wr w2 : World} {B wb rb e7 k l q y : Nat} {s : StJ} {t : Int} {E F : Option Addr} {D : List ByteArray} {X : List Int} {u : Value}
    (h : EvSt w1 wr B wb rb e7 s t E k q D F l y X) (hf : Fr (fun i => i = rb ∨ i = wb) wr w2) :
    (w2.alloc (.cells #[u] 3)).ownsRow B 3 1 (.slice F l y) l (intsV X) ∧ B ≤ (w2.alloc (.cells #[u] 3)).heap.size := by
  have hab : Below w2.heap.size w2 (w2.alloc (.cells #[u] 3)) := bpush (Below.refl _ _) _
  exact ⟨own_below (own_frJ h.ox hf (fun b hb e => by have := own_far h.ox hb; have := h.rlt; have := h.wlt; have := h.elt; omega)) hab, Nat.le_trans (Nat.le_trans h.bsz hf.size) hab.size⟩
theorem EvSt.cellAtX {w1 wr w2 w4 : World} {B wb rb e7 k l q y : Nat} {s : StJ} {t : Int} {E F : Option Addr} {D : List ByteArray} {X : List Int} {u : Value}
    (h : EvSt w1 wr B wb rb e7 s t E k q D F l y X) (hf : Fr (fun i => i = rb ∨ i = wb) wr w2) (hg : (w2.alloc (.cells #[u] 3)).grownBy w4 (Value.ownBlock (.slice F l y))) :
    w4.cell? ⟨e7, 2, none⟩ = some (.slice F l y) ∧ w4.frozen? ⟨e7, 2, none⟩ = false := by
  have hab : Below w2.heap.size w2 (w2.alloc (.cells #[u] 3)) := bpush (Below.refl _ _) _
  have hb2 : Blk w2 e7 44 #[.int .i64 t, .slice E k q, .slice F l y] := (hf.block _ h.blk.lt (fun e => by have := h.rlt; have := h.wlt; omega)).trans h.blk
  have hg4 := grown_own (h.ownAtX (u := u) hf).1 hg (h.ownAtX (u := u) hf).2
  have hb4 : Blk w4 e7 44 #[.int .i64 t, .slice E k q, .slice F l y] := ((hb2.below hab hb2.lt).below hg4 h.elt)
  exact ⟨by rw [hb4.cell 2]; rfl, hb4.frozen 2⟩
theorem info3 : (Tryd.prog.info? 3).map (fun i => (i.zero, i.size, i.bytes)) = some (some (.int .i64 0), 1, 8) := by kernel_rfl
set_option maxRecDepth 100000 in
set_option maxHeartbeats 16000000 in
theorem event_any (wb rb : Nat) (A B : Option Addr) (n c m d : Nat) (s0 : StJ) (w : World) (h : StW w wb rb s0) (hn : n ≤ 1000) (hm : m ≤ 1000) (t : Int) (s1 s2 s3 : StJ) (D0 : List ByteArray) (X0 : List Int)
    (ht : (t, s1) = takeI 0 1099511627776 s0) (hd : (D0, s2) = takeD n s1) (hx : (X0, s3) = takeX m s2) :
    Calls Tryd.prog 47 #[.pointer (some ⟨wb, 0, none⟩), .pointer (some ⟨rb, 0, none⟩), .agg #[.slice A n c, .slice B m d]] w (EventP w wb rb n m t D0 X0 s3) := by
  obtain ⟨w1, hw1⟩ : ∃ w1, w1 = ((w.alloc (.cells #[.pointer (some ⟨rb, 0, none⟩)] 86)).alloc (.cells #[.slice A n c, .slice B m d] 24)).alloc (.cells #[.int .i64 0, .slice none 0 0, .slice none 0 0] 44) := ⟨_, rfl⟩
  have hb1 : Below w.heap.size w w1 := by rw [hw1]; exact bpush (bpush (bpush (Below.refl _ _) _) _) _
  have hz1 : w1.heap.size = w.heap.size + 3 := by rw [hw1]; simp
  have hR1 : w1.cell? ⟨w.heap.size, 0, none⟩ = some (.pointer (some ⟨rb, 0, none⟩)) := by rw [hw1]; exact cell_on (bpush (bpush (Below.refl _ _) _) _) (cell_made rfl rfl)
  have hA1 : w1.cell? ⟨w.heap.size + 1, 0, none⟩ = some (.slice A n c) := by rw [hw1]; exact cell_on (bpush (Below.refl _ _) _) (cell_made (by simp) rfl)
  have hB1 : w1.cell? ⟨w.heap.size + 1, 1, none⟩ = some (.slice B m d) := by rw [hw1]; exact cell_on (bpush (Below.refl _ _) _) (cell_made (by simp) rfl)
  have hQ1 : Blk w1 (w.heap.size + 2) 44 #[.int .i64 0, .slice none 0 0, .slice none 0 0] := by
    rw [hw1]
    have := Blk.new ((w.alloc (.cells #[.pointer (some ⟨rb, 0, none⟩)] 86)).alloc (.cells #[.slice A n c, .slice B m d] 24)) 44 #[.int .i64 0, .slice none 0 0, .slice none 0 0]
    simpa using this
  have hwl := h.1.lt
  have hrl : rb < w.heap.size := by obtain ⟨bs, hq, _⟩ := h.2; exact hq.lt
  have HCL := Lib.hid (fun W (hf : Fr (fun i => i = rb ∨ i = wb) w1 W) => show W.cell? ⟨w.heap.size, 0, none⟩ = some (.pointer (some ⟨rb, 0, none⟩)) ∧ W.cell? ⟨w.heap.size + 1, 0, none⟩ = some (.slice A n c) ∧ W.cell? ⟨w.heap.size + 1, 1, none⟩ = some (.slice B m d) ∧ Blk W (w.heap.size + 2) 44 #[.int .i64 0, .slice none 0 0, .slice none 0 0] from by
    refine ⟨?_, ?_, ?_, (hf.block _ (by omega) (by omega)).trans hQ1⟩
    · exact (World.cell?_of_block (a := ⟨w.heap.size, 0, none⟩) (hf.block _ (by show w.heap.size < _; omega) (by show ¬ (w.heap.size = rb ∨ w.heap.size = wb); omega))).trans hR1
    · exact (World.cell?_of_block (a := ⟨w.heap.size + 1, 0, none⟩) (hf.block _ (by show w.heap.size + 1 < _; omega) (by show ¬ (w.heap.size + 1 = rb ∨ w.heap.size + 1 = wb); omega))).trans hA1
    · exact (World.cell?_of_block (a := ⟨w.heap.size + 1, 1, none⟩) (hf.block _ (by show w.heap.size + 1 < _; omega) (by show ¬ (w.heap.size + 1 = rb ∨ w.heap.size + 1 = wb); omega))).trans hB1)
  have HT0 := Lib.hid (take43 wb rb w.heap.size s0 w1 clo72 (h.keep hb1) hR1 t s1 ht)
  have HB1 := Lib.hid hb1
  have HZ1 := Lib.hid hz1
  have HD := Lib.hid hd
  have HX := Lib.hid hx
  have HW1 := Lib.hid hw1
  obtain ⟨i9, hi9, hz9a, hz9b, hz9c⟩ := info_parts info9
  obtain ⟨i3, hi3, hz3a, hz3b, hz3c⟩ := info_parts info3
  clear h hw1 hb1 hz1 hA1 hB1 hQ1 ht hd hx hR1
  go_enter Tryd.func47, Tryd.ntmps47
  go_upto_region 1 with fail
  rw [← HW1.out]
  clear HW1
  go_upto_region 2 with (go_at_call 43; refine HT0.out.mono ?_; rintro e w2 ⟨rfl, h2, hf2⟩; have H2 := Lib.hid h2; have HF2 := Lib.hid hf2; clear h2 hf2)
  have HBK2 := Lib.hid (HCL.out w2 HF2.out)
  obtain ⟨_, _, _, hQ2⟩ := HBK2.out
  obtain ⟨we, hwe⟩ : ∃ we, we = w2.alloc (.cells #[.int .i64 t, .slice none 0 0, .slice none 0 0] 44) := ⟨_, rfl⟩
  obtain ⟨e7, he7⟩ : ∃ e7, e7 = w2.heap.size := ⟨_, rfl⟩
  have hbe : Below w2.heap.size w2 we := by rw [hwe]; exact bpush (Below.refl _ _) _
  have hsz2 := HF2.out.size
  have hez : we.heap.size = e7 + 1 := by rw [hwe, he7]; simp
  have HST0 := Lib.hid (show EvSt w1 we (e7 + 1) wb rb e7 s1 t none 0 0 [] none 0 0 [] from by
    refine ⟨H2.out.keep hbe, ?_, World.ownsRow_nil _ _ _ _, World.ownsRow_nil _ _ _ _, HF2.out.trans (Fr.of_below hbe), rfl, rfl, ?_, ?_, Nat.lt_succ_self _, by omega, by omega⟩
    · rw [hwe, he7]; exact Blk.new _ _ _
    · have := HZ1.out; omega
    · have := HZ1.out; omega)
  obtain ⟨c1, c2, c3, _⟩ := HCL.out we (HF2.out.trans (Fr.of_below hbe))
  have HWE := Lib.hid hwe
  have HE7 := Lib.hid he7
  clear hwe he7 hbe hsz2 hez hQ2
  rw [← HWE.out, ← HE7.out]
  go_wp2_with fail
  clear c1 c2 c3
  go_loopw [15] (fun i wr => ∃ (k : Nat) (s : StJ) (E : Option Addr) (q : Nat) (D : List ByteArray), k ≤ n ∧ i = .int .i64 k ∧ Hid (EvSt w1 wr (e7 + 1) wb rb e7 s t E k q D none 0 0 []) ∧ Hid ((D, s) = takeD k s1)) (fun i _ => n - (RowKit.intOf i).toNat)
  case atStart => exact ⟨0, s1, none, 0, [], Nat.zero_le _, rfl, HST0, Lib.hid rfl⟩
  case round =>
    obtain ⟨k, s, E, q, D, hk, rfl, HST, HDS⟩ := hrel
    by_cases hlt : k < n
    · have hki : (k : Int) < (n : Int) := by omega
      have hk0 : (0 : Int) ≤ (k : Int) := by omega
      obtain ⟨x, s', hxs⟩ : ∃ x s', (x, s') = takeT s := ⟨_, _, rfl⟩
      have hcR := HCL.out wr HST.out.fr
      have HTK := Lib.hid (take73 wb rb w.heap.size s wr.drew clo74 (HST.out.st.keep (below_drewN (Below.refl _ _) 1)) (by simpa using hcR.1) x s' hxs)
      have HFD := Lib.hid (show Fr (fun i => i = rb ∨ i = wb) wr wr.drew from (Fr.refl _ _).drew 1)
      have HL0 := Lib.hid (show wr.drew.cell? ⟨e7, 1, none⟩ = some (.slice E k q) from cell_on (below_drewN (Below.refl _ _) 1) (by rw [HST.out.blk.cell 1]; rfl))
      have HLF := Lib.hid (fun w2 (hf : Fr (fun i => i = rb ∨ i = wb) wr.drew w2) => show w2.cell? ⟨e7, 1, none⟩ = some (.slice E k q) from by
        have hb := (HFD.out.trans hf).block _ HST.out.blk.lt (fun e => by have := HST.out.wlt; have := HST.out.rlt; omega)
        have hk : Blk w2 e7 44 #[.int .i64 t, .slice E k q, .slice none 0 0] := hb.trans HST.out.blk
        rw [hk.cell 1]; rfl)
      have HOW := Lib.hid (fun w2 (hf : Fr (fun i => i = rb ∨ i = wb) wr.drew w2) => HST.out.ownAtD (u := .string x) (HFD.out.trans hf))
      have HBK := Lib.hid (fun w2 w4 (hf : Fr (fun i => i = rb ∨ i = wb) wr.drew w2) hg => HST.out.cellAtD (u := .string x) (w4 := w4) (HFD.out.trans hf) hg)
      have HTD := Lib.hid (show Hid ((D ++ [x], s') = takeD (k + 1) s1) from Lib.hid (by rw [takeD, ← HDS.out]; simp only []; rw [← hxs]))
      clear hxs hcR
      go_wp2_with fail
      refine wp_region_held_drew (S := fun _ => True) (by kernel_rfl) trivial ?_
      intro hHeld
      refine take_want (i := 0) (v := ?v0k7) rfl (by kernel_rfl) (by kernel_rfl) (by kernel_rfl) (fun _ _ _ h => h) (by rfl) ?y0k7 (by assumption) ?r0k7
      case y0k7 => (intro w hSw; go_simp; all_goals with_reducible rfl)
      (try simp only [Act.put, List.setIfInBounds_toArray, List.set_cons_zero, List.set_cons_succ])
      refine take_want (i := 2) (v := ?v2k8) rfl (by kernel_rfl) (by kernel_rfl) (by kernel_rfl) (fun _ _ _ h => h) (by rfl) ?y2k8 (by assumption) ?r2k8
      case y2k8 => (intro w hSw; go_simp; all_goals with_reducible rfl)
      (try simp only [Act.put, List.setIfInBounds_toArray, List.set_cons_zero, List.set_cons_succ])
      refine take_want (i := 3) (v := ?v3k9) rfl (by kernel_rfl) (by kernel_rfl) (by kernel_rfl) (fun _ _ _ h => h) (by rfl) ?y3k9 (by assumption) ?r3k9
      case y3k9 => (intro w hSw; go_simp; all_goals with_reducible rfl)
      (try simp only [Act.put, List.setIfInBounds_toArray, List.set_cons_zero, List.set_cons_succ])
      refine wpAnyH_ready (rs := [1, 4]) (by kernel_rfl) (by simp) ?_
      refine AllReadyH.cons rfl (fun K hK => ?_) (AllReadyH.cons rfl (fun K hK => ?_) AllReadyH.nil)
      · have o2 := HL0.out
        go_simp
        clear o2
        refine hK.out _ _ trivial (fun hHeld => ?_)
        clear hK K
        (try simp only [Act.put, List.setIfInBounds_toArray, List.set_cons_zero, List.set_cons_succ])
        refine wpAnyH_ready (rs := [4]) (by kernel_rfl) (by simp) ?_
        refine AllReadyH.cons rfl (fun K hK => ?_) AllReadyH.nil
        go_simp
        (go_at_call 73; refine HTK.out.mono ?_; rintro e w2 ⟨rfl, h2, hf2⟩)
        have H2 := Lib.hid h2
        have HF2 := Lib.hid hf2
        have HL2 := Lib.hid (HLF.out w2 hf2)
        clear h2 hf2
        refine hK.out _ _ trivial (fun hHeld => ?_)
        clear hK K
        (try simp only [Act.put, List.setIfInBounds_toArray, List.set_cons_zero, List.set_cons_succ])
        refine wpAnyH_ready (rs := [5]) (by kernel_rfl) (by simp) ?_
        refine AllReadyH.cons rfl (fun K hK => ?_) AllReadyH.nil
        go_simp
        have HL3 := Lib.hid (show (w2.alloc (.cells #[.string x] 9)).cell? ⟨e7, 1, none⟩ = some (.slice E k q) from cell_on (bpush (Below.refl _ _) _) HL2.out)
        refine hK.out _ _ trivial (fun hHeld => ?_)
        clear hK K
        (try simp only [Act.put, List.setIfInBounds_toArray, List.set_cons_zero, List.set_cons_succ])
        refine wpAnyH_ready (rs := [6]) (by kernel_rfl) (by simp) ?_
        refine AllReadyH.cons rfl (fun K hK => ?_) AllReadyH.nil
        refine step_app1 _ _ 22 rfl (e7 + 1) 9 i9 _ 16 Tryd.underlying22 hi9 hz9a hz9b hz9c rfl (.slice E k q) k (texts D) (by first | rfl | (simp; done)) (HOW.out w2 HF2.out).1 ⟨w2.heap.size, 0, none⟩ (.string x) (by first | rfl | (simp; done)) (cell_one_new _ _ _) rfl (by omega) (by omega) (HOW.out w2 HF2.out).2 ?_
        intro v4 w4 ho4 hg4
        have HM4 := Lib.hid (HST.out.moreD H2.out (HFD.out.trans HF2.out) ho4 hg4)
        obtain ⟨A4, c4, hv4, hst4⟩ := HM4.out
        have HV4 := Lib.hid hst4
        have d0 := HBK.out _ _ HF2.out hg4
        subst hv4
        clear ho4 hg4 hst4 HM4
        refine hK.out _ _ trivial (fun hHeld => ?_)
        clear hK K
        (try simp only [Act.put, List.setIfInBounds_toArray, List.set_cons_zero, List.set_cons_succ])
        refine take_want (i := 7) (v := ?v7k10) rfl (by kernel_rfl) (by kernel_rfl) (by kernel_rfl) (fun _ _ _ h => h) (by rfl) ?y7k10 (by assumption) ?r7k10
        case y7k10 => (intro w hSw; go_simp; all_goals with_reducible rfl)
        (try simp only [Act.put, List.setIfInBounds_toArray, List.set_cons_zero, List.set_cons_succ])
        refine wpAnyH_ready (rs := [8]) (by kernel_rfl) (by simp) ?_
        refine AllReadyH.cons rfl (fun K hK => ?_) AllReadyH.nil
        have o2 := d0.1
        have of2 := d0.2
        go_simp
        clear o2 of2 d0
        refine hK.out _ _ trivial (fun hHeld => ?_)
        clear hK K
        (try simp only [Act.put, List.setIfInBounds_toArray, List.set_cons_zero, List.set_cons_succ])
        refine wpAnyH_done (by kernel_rfl) ?_ _
        go_wp2_with fail
        go_roundw
        case rel => exact ⟨k + 1, _, A4, c4, _, by omega, by go_num, HV4, HTD.out⟩
        case measure => simp [RowKit.intOf]; omega
      · go_simp
        (go_at_call 73; refine HTK.out.mono ?_; rintro e w2 ⟨rfl, h2, hf2⟩)
        have H2 := Lib.hid h2
        have HF2 := Lib.hid hf2
        have HL2 := Lib.hid (HLF.out w2 hf2)
        clear h2 hf2
        refine hK.out _ _ trivial (fun hHeld => ?_)
        clear hK K
        (try simp only [Act.put, List.setIfInBounds_toArray, List.set_cons_zero, List.set_cons_succ])
        refine wpAnyH_ready (rs := [1, 5]) (by kernel_rfl) (by simp) ?_
        refine AllReadyH.cons rfl (fun K hK => ?_) (AllReadyH.cons rfl (fun K hK => ?_) AllReadyH.nil)
        · have o2 := HL2.out
          go_simp
          clear o2
          refine hK.out _ _ trivial (fun hHeld => ?_)
          clear hK K
          (try simp only [Act.put, List.setIfInBounds_toArray, List.set_cons_zero, List.set_cons_succ])
          refine wpAnyH_ready (rs := [5]) (by kernel_rfl) (by simp) ?_
          refine AllReadyH.cons rfl (fun K hK => ?_) AllReadyH.nil
          go_simp
          have HL3 := Lib.hid (show (w2.alloc (.cells #[.string x] 9)).cell? ⟨e7, 1, none⟩ = some (.slice E k q) from cell_on (bpush (Below.refl _ _) _) HL2.out)
          refine hK.out _ _ trivial (fun hHeld => ?_)
          clear hK K
          (try simp only [Act.put, List.setIfInBounds_toArray, List.set_cons_zero, List.set_cons_succ])
          refine wpAnyH_ready (rs := [6]) (by kernel_rfl) (by simp) ?_
          refine AllReadyH.cons rfl (fun K hK => ?_) AllReadyH.nil
          refine step_app1 _ _ 22 rfl (e7 + 1) 9 i9 _ 16 Tryd.underlying22 hi9 hz9a hz9b hz9c rfl (.slice E k q) k (texts D) (by first | rfl | (simp; done)) (HOW.out w2 HF2.out).1 ⟨w2.heap.size, 0, none⟩ (.string x) (by first | rfl | (simp; done)) (cell_one_new _ _ _) rfl (by omega) (by omega) (HOW.out w2 HF2.out).2 ?_
          intro v4 w4 ho4 hg4
          have HM4 := Lib.hid (HST.out.moreD H2.out (HFD.out.trans HF2.out) ho4 hg4)
          obtain ⟨A4, c4, hv4, hst4⟩ := HM4.out
          have HV4 := Lib.hid hst4
          have d0 := HBK.out _ _ HF2.out hg4
          subst hv4
          clear ho4 hg4 hst4 HM4
          refine hK.out _ _ trivial (fun hHeld => ?_)
          clear hK K
          (try simp only [Act.put, List.setIfInBounds_toArray, List.set_cons_zero, List.set_cons_succ])
          refine take_want (i := 7) (v := ?v7k11) rfl (by kernel_rfl) (by kernel_rfl) (by kernel_rfl) (fun _ _ _ h => h) (by rfl) ?y7k11 (by assumption) ?r7k11
          case y7k11 => (intro w hSw; go_simp; all_goals with_reducible rfl)
          (try simp only [Act.put, List.setIfInBounds_toArray, List.set_cons_zero, List.set_cons_succ])
          refine wpAnyH_ready (rs := [8]) (by kernel_rfl) (by simp) ?_
          refine AllReadyH.cons rfl (fun K hK => ?_) AllReadyH.nil
          have o2 := d0.1
          have of2 := d0.2
          go_simp
          clear o2 of2 d0
          refine hK.out _ _ trivial (fun hHeld => ?_)
          clear hK K
          (try simp only [Act.put, List.setIfInBounds_toArray, List.set_cons_zero, List.set_cons_succ])
          refine wpAnyH_done (by kernel_rfl) ?_ _
          go_wp2_with fail
          go_roundw
          case rel => exact ⟨k + 1, _, A4, c4, _, by omega, by go_num, HV4, HTD.out⟩
          case measure => simp [RowKit.intOf]; omega
        · go_simp
          have HL3 := Lib.hid (show (w2.alloc (.cells #[.string x] 9)).cell? ⟨e7, 1, none⟩ = some (.slice E k q) from cell_on (bpush (Below.refl _ _) _) HL2.out)
          refine hK.out _ _ trivial (fun hHeld => ?_)
          clear hK K
          (try simp only [Act.put, List.setIfInBounds_toArray, List.set_cons_zero, List.set_cons_succ])
          refine wpAnyH_ready (rs := [1]) (by kernel_rfl) (by simp) ?_
          refine AllReadyH.cons rfl (fun K hK => ?_) AllReadyH.nil
          have o2 := HL3.out
          go_simp
          clear o2
          refine hK.out _ _ trivial (fun hHeld => ?_)
          clear hK K
          (try simp only [Act.put, List.setIfInBounds_toArray, List.set_cons_zero, List.set_cons_succ])
          refine wpAnyH_ready (rs := [6]) (by kernel_rfl) (by simp) ?_
          refine AllReadyH.cons rfl (fun K hK => ?_) AllReadyH.nil
          refine step_app1 _ _ 22 rfl (e7 + 1) 9 i9 _ 16 Tryd.underlying22 hi9 hz9a hz9b hz9c rfl (.slice E k q) k (texts D) (by first | rfl | (simp; done)) (HOW.out w2 HF2.out).1 ⟨w2.heap.size, 0, none⟩ (.string x) (by first | rfl | (simp; done)) (cell_one_new _ _ _) rfl (by omega) (by omega) (HOW.out w2 HF2.out).2 ?_
          intro v4 w4 ho4 hg4
          have HM4 := Lib.hid (HST.out.moreD H2.out (HFD.out.trans HF2.out) ho4 hg4)
          obtain ⟨A4, c4, hv4, hst4⟩ := HM4.out
          have HV4 := Lib.hid hst4
          have d0 := HBK.out _ _ HF2.out hg4
          subst hv4
          clear ho4 hg4 hst4 HM4
          refine hK.out _ _ trivial (fun hHeld => ?_)
          clear hK K
          (try simp only [Act.put, List.setIfInBounds_toArray, List.set_cons_zero, List.set_cons_succ])
          refine take_want (i := 7) (v := ?v7k12) rfl (by kernel_rfl) (by kernel_rfl) (by kernel_rfl) (fun _ _ _ h => h) (by rfl) ?y7k12 (by assumption) ?r7k12
          case y7k12 => (intro w hSw; go_simp; all_goals with_reducible rfl)
          (try simp only [Act.put, List.setIfInBounds_toArray, List.set_cons_zero, List.set_cons_succ])
          refine wpAnyH_ready (rs := [8]) (by kernel_rfl) (by simp) ?_
          refine AllReadyH.cons rfl (fun K hK => ?_) AllReadyH.nil
          have o2 := d0.1
          have of2 := d0.2
          go_simp
          clear o2 of2 d0
          refine hK.out _ _ trivial (fun hHeld => ?_)
          clear hK K
          (try simp only [Act.put, List.setIfInBounds_toArray, List.set_cons_zero, List.set_cons_succ])
          refine wpAnyH_done (by kernel_rfl) ?_ _
          go_wp2_with fail
          go_roundw
          case rel => exact ⟨k + 1, _, A4, c4, _, by omega, by go_num, HV4, HTD.out⟩
          case measure => simp [RowKit.intOf]; omega
    · obtain rfl : k = n := by omega
      have hge : ¬ (k : Int) < (k : Int) := by omega
      have hDe : D0 = D ∧ s2 = s := by
        have h1 := HD.out
        rw [← HDS.out] at h1
        exact ⟨congrArg Prod.fst h1, congrArg Prod.snd h1⟩
      obtain ⟨rfl, rfl⟩ := hDe
      have HSTD := Lib.hid HST.out
      obtain ⟨c1, c2, c3, _⟩ := HCL.out wr HST.out.fr
      obtain ⟨wo, rfl⟩ : ∃ wo : World, wo = wr := ⟨_, rfl⟩
      clear hlt HDS HD HST
      go_wp2_with fail
      clear c1 c2 c3
      go_loopw [29] (fun i wr => ∃ (l : Nat) (s : StJ) (F : Option Addr) (y : Nat) (X : List Int), l ≤ m ∧ i = .int .i64 l ∧ Hid (EvSt w1 wr (e7 + 1) wb rb e7 s t E k q D0 F l y X) ∧ Hid ((X, s) = takeX l s2)) (fun i _ => m - (RowKit.intOf i).toNat)
      case atStart => exact ⟨0, _, none, 0, [], Nat.zero_le _, rfl, HSTD, Lib.hid rfl⟩
      case round =>
        obtain ⟨l, s, F, y, X, hl, rfl, HST, HXS⟩ := hrel
        by_cases hlt : l < m
        · have hki : (l : Int) < (m : Int) := by omega
          have hk0 : (0 : Int) ≤ (l : Int) := by omega
          obtain ⟨x, s', hxs⟩ : ∃ x s', (x, s') = takeI (-4611686018427387904) 4611686018427387904 s := ⟨_, _, rfl⟩
          have hcR := HCL.out wr HST.out.fr
          have HTK := Lib.hid (take43 wb rb w.heap.size s wr.drew clo76 (HST.out.st.keep (below_drewN (Below.refl _ _) 1)) (by simpa using hcR.1) x s' hxs)
          have HFD := Lib.hid (show Fr (fun i => i = rb ∨ i = wb) wr wr.drew from (Fr.refl _ _).drew 1)
          have HL0 := Lib.hid (show wr.drew.cell? ⟨e7, 2, none⟩ = some (.slice F l y) from cell_on (below_drewN (Below.refl _ _) 1) (by rw [HST.out.blk.cell 2]; rfl))
          have HLF := Lib.hid (fun w2 (hf : Fr (fun i => i = rb ∨ i = wb) wr.drew w2) => show w2.cell? ⟨e7, 2, none⟩ = some (.slice F l y) from by
            have hb := (HFD.out.trans hf).block _ HST.out.blk.lt (fun e => by have := HST.out.wlt; have := HST.out.rlt; omega)
            have hk : Blk w2 e7 44 #[.int .i64 t, .slice E k q, .slice F l y] := hb.trans HST.out.blk
            rw [hk.cell 2]; rfl)
          have HOW := Lib.hid (fun w2 (hf : Fr (fun i => i = rb ∨ i = wb) wr.drew w2) => HST.out.ownAtX (u := .int .i64 x) (HFD.out.trans hf))
          have HBK := Lib.hid (fun w2 w4 (hf : Fr (fun i => i = rb ∨ i = wb) wr.drew w2) hg => HST.out.cellAtX (u := .int .i64 x) (w4 := w4) (HFD.out.trans hf) hg)
          have HTX := Lib.hid (show Hid ((X ++ [x], s') = takeX (l + 1) s2) from Lib.hid (by rw [takeX, ← HXS.out]; simp only []; rw [← hxs]))
          clear hxs hcR
          go_wp2_with fail
          refine wp_region_held_drew (S := fun _ => True) (by kernel_rfl) trivial ?_
          intro hHeld
          refine take_want (i := 0) (v := ?v0k13) rfl (by kernel_rfl) (by kernel_rfl) (by kernel_rfl) (fun _ _ _ h => h) (by rfl) ?y0k13 (by assumption) ?r0k13
          case y0k13 => (intro w hSw; go_simp; all_goals with_reducible rfl)
          (try simp only [Act.put, List.setIfInBounds_toArray, List.set_cons_zero, List.set_cons_succ])
          refine take_want (i := 2) (v := ?v2k14) rfl (by kernel_rfl) (by kernel_rfl) (by kernel_rfl) (fun _ _ _ h => h) (by rfl) ?y2k14 (by assumption) ?r2k14
          case y2k14 => (intro w hSw; go_simp; all_goals with_reducible rfl)
          (try simp only [Act.put, List.setIfInBounds_toArray, List.set_cons_zero, List.set_cons_succ])
          refine take_want (i := 3) (v := ?v3k15) rfl (by kernel_rfl) (by kernel_rfl) (by kernel_rfl) (fun _ _ _ h => h) (by rfl) ?y3k15 (by assumption) ?r3k15
          case y3k15 => (intro w hSw; go_simp; all_goals with_reducible rfl)
          (try simp only [Act.put, List.setIfInBounds_toArray, List.set_cons_zero, List.set_cons_succ])
          refine wpAnyH_ready (rs := [1, 4]) (by kernel_rfl) (by simp) ?_
          refine AllReadyH.cons rfl (fun K hK => ?_) (AllReadyH.cons rfl (fun K hK => ?_) AllReadyH.nil)
          · have o2 := HL0.out
            go_simp
            clear o2
            refine hK.out _ _ trivial (fun hHeld => ?_)
            clear hK K
            (try simp only [Act.put, List.setIfInBounds_toArray, List.set_cons_zero, List.set_cons_succ])
            refine wpAnyH_ready (rs := [4]) (by kernel_rfl) (by simp) ?_
            refine AllReadyH.cons rfl (fun K hK => ?_) AllReadyH.nil
            go_simp
            (go_at_call 43; refine HTK.out.mono ?_; rintro e w2 ⟨rfl, h2, hf2⟩)
            have H2 := Lib.hid h2
            have HF2 := Lib.hid hf2
            have HL2 := Lib.hid (HLF.out w2 hf2)
            clear h2 hf2
            refine hK.out _ _ trivial (fun hHeld => ?_)
            clear hK K
            (try simp only [Act.put, List.setIfInBounds_toArray, List.set_cons_zero, List.set_cons_succ])
            refine wpAnyH_ready (rs := [5]) (by kernel_rfl) (by simp) ?_
            refine AllReadyH.cons rfl (fun K hK => ?_) AllReadyH.nil
            go_simp
            have HL3 := Lib.hid (show (w2.alloc (.cells #[.int .i64 x] 3)).cell? ⟨e7, 2, none⟩ = some (.slice F l y) from cell_on (bpush (Below.refl _ _) _) HL2.out)
            refine hK.out _ _ trivial (fun hHeld => ?_)
            clear hK K
            (try simp only [Act.put, List.setIfInBounds_toArray, List.set_cons_zero, List.set_cons_succ])
            refine wpAnyH_ready (rs := [6]) (by kernel_rfl) (by simp) ?_
            refine AllReadyH.cons rfl (fun K hK => ?_) AllReadyH.nil
            refine step_app1 _ _ 42 rfl (e7 + 1) 3 i3 _ 8 Tryd.underlying42 hi3 hz3a hz3b hz3c rfl (.slice F l y) l (intsV X) (by first | rfl | (simp; done)) (HOW.out w2 HF2.out).1 ⟨w2.heap.size, 0, none⟩ (.int .i64 x) (by first | rfl | (simp; done)) (cell_one_new _ _ _) rfl (by omega) (by omega) (HOW.out w2 HF2.out).2 ?_
            intro v4 w4 ho4 hg4
            have HM4 := Lib.hid (HST.out.moreX H2.out (HFD.out.trans HF2.out) ho4 hg4)
            obtain ⟨A4, c4, hv4, hst4⟩ := HM4.out
            have HV4 := Lib.hid hst4
            have d0 := HBK.out _ _ HF2.out hg4
            subst hv4
            clear ho4 hg4 hst4 HM4
            refine hK.out _ _ trivial (fun hHeld => ?_)
            clear hK K
            (try simp only [Act.put, List.setIfInBounds_toArray, List.set_cons_zero, List.set_cons_succ])
            refine take_want (i := 7) (v := ?v7k16) rfl (by kernel_rfl) (by kernel_rfl) (by kernel_rfl) (fun _ _ _ h => h) (by rfl) ?y7k16 (by assumption) ?r7k16
            case y7k16 => (intro w hSw; go_simp; all_goals with_reducible rfl)
            (try simp only [Act.put, List.setIfInBounds_toArray, List.set_cons_zero, List.set_cons_succ])
            refine wpAnyH_ready (rs := [8]) (by kernel_rfl) (by simp) ?_
            refine AllReadyH.cons rfl (fun K hK => ?_) AllReadyH.nil
            have o2 := d0.1
            have of2 := d0.2
            go_simp
            clear o2 of2 d0
            refine hK.out _ _ trivial (fun hHeld => ?_)
            clear hK K
            (try simp only [Act.put, List.setIfInBounds_toArray, List.set_cons_zero, List.set_cons_succ])
            refine wpAnyH_done (by kernel_rfl) ?_ _
            go_wp2_with fail
            go_roundw
            case rel => exact ⟨l + 1, _, A4, c4, _, by omega, by go_num, HV4, HTX.out⟩
            case measure => simp [RowKit.intOf]; omega
          · go_simp
            (go_at_call 43; refine HTK.out.mono ?_; rintro e w2 ⟨rfl, h2, hf2⟩)
            have H2 := Lib.hid h2
            have HF2 := Lib.hid hf2
            have HL2 := Lib.hid (HLF.out w2 hf2)
            clear h2 hf2
            refine hK.out _ _ trivial (fun hHeld => ?_)
            clear hK K
            (try simp only [Act.put, List.setIfInBounds_toArray, List.set_cons_zero, List.set_cons_succ])
            refine wpAnyH_ready (rs := [1, 5]) (by kernel_rfl) (by simp) ?_
            refine AllReadyH.cons rfl (fun K hK => ?_) (AllReadyH.cons rfl (fun K hK => ?_) AllReadyH.nil)
            · have o2 := HL2.out
              go_simp
              clear o2
              refine hK.out _ _ trivial (fun hHeld => ?_)
              clear hK K
              (try simp only [Act.put, List.setIfInBounds_toArray, List.set_cons_zero, List.set_cons_succ])
              refine wpAnyH_ready (rs := [5]) (by kernel_rfl) (by simp) ?_
              refine AllReadyH.cons rfl (fun K hK => ?_) AllReadyH.nil
              go_simp
              have HL3 := Lib.hid (show (w2.alloc (.cells #[.int .i64 x] 3)).cell? ⟨e7, 2, none⟩ = some (.slice F l y) from cell_on (bpush (Below.refl _ _) _) HL2.out)
              refine hK.out _ _ trivial (fun hHeld => ?_)
              clear hK K
              (try simp only [Act.put, List.setIfInBounds_toArray, List.set_cons_zero, List.set_cons_succ])
              refine wpAnyH_ready (rs := [6]) (by kernel_rfl) (by simp) ?_
              refine AllReadyH.cons rfl (fun K hK => ?_) AllReadyH.nil
              refine step_app1 _ _ 42 rfl (e7 + 1) 3 i3 _ 8 Tryd.underlying42 hi3 hz3a hz3b hz3c rfl (.slice F l y) l (intsV X) (by first | rfl | (simp; done)) (HOW.out w2 HF2.out).1 ⟨w2.heap.size, 0, none⟩ (.int .i64 x) (by first | rfl | (simp; done)) (cell_one_new _ _ _) rfl (by omega) (by omega) (HOW.out w2 HF2.out).2 ?_
              intro v4 w4 ho4 hg4
              have HM4 := Lib.hid (HST.out.moreX H2.out (HFD.out.trans HF2.out) ho4 hg4)
              obtain ⟨A4, c4, hv4, hst4⟩ := HM4.out
              have HV4 := Lib.hid hst4
              have d0 := HBK.out _ _ HF2.out hg4
              subst hv4
              clear ho4 hg4 hst4 HM4
              refine hK.out _ _ trivial (fun hHeld => ?_)
              clear hK K
              (try simp only [Act.put, List.setIfInBounds_toArray, List.set_cons_zero, List.set_cons_succ])
              refine take_want (i := 7) (v := ?v7k17) rfl (by kernel_rfl) (by kernel_rfl) (by kernel_rfl) (fun _ _ _ h => h) (by rfl) ?y7k17 (by assumption) ?r7k17
              case y7k17 => (intro w hSw; go_simp; all_goals with_reducible rfl)
              (try simp only [Act.put, List.setIfInBounds_toArray, List.set_cons_zero, List.set_cons_succ])
              refine wpAnyH_ready (rs := [8]) (by kernel_rfl) (by simp) ?_
              refine AllReadyH.cons rfl (fun K hK => ?_) AllReadyH.nil
              have o2 := d0.1
              have of2 := d0.2
              go_simp
              clear o2 of2 d0
              refine hK.out _ _ trivial (fun hHeld => ?_)
              clear hK K
              (try simp only [Act.put, List.setIfInBounds_toArray, List.set_cons_zero, List.set_cons_succ])
              refine wpAnyH_done (by kernel_rfl) ?_ _
              go_wp2_with fail
              go_roundw
              case rel => exact ⟨l + 1, _, A4, c4, _, by omega, by go_num, HV4, HTX.out⟩
              case measure => simp [RowKit.intOf]; omega
            · go_simp
              have HL3 := Lib.hid (show (w2.alloc (.cells #[.int .i64 x] 3)).cell? ⟨e7, 2, none⟩ = some (.slice F l y) from cell_on (bpush (Below.refl _ _) _) HL2.out)
              refine hK.out _ _ trivial (fun hHeld => ?_)
              clear hK K
              (try simp only [Act.put, List.setIfInBounds_toArray, List.set_cons_zero, List.set_cons_succ])
              refine wpAnyH_ready (rs := [1]) (by kernel_rfl) (by simp) ?_
              refine AllReadyH.cons rfl (fun K hK => ?_) AllReadyH.nil
              have o2 := HL3.out
              go_simp
              clear o2
              refine hK.out _ _ trivial (fun hHeld => ?_)
              clear hK K
              (try simp only [Act.put, List.setIfInBounds_toArray, List.set_cons_zero, List.set_cons_succ])
              refine wpAnyH_ready (rs := [6]) (by kernel_rfl) (by simp) ?_
              refine AllReadyH.cons rfl (fun K hK => ?_) AllReadyH.nil
              refine step_app1 _ _ 42 rfl (e7 + 1) 3 i3 _ 8 Tryd.underlying42 hi3 hz3a hz3b hz3c rfl (.slice F l y) l (intsV X) (by first | rfl | (simp; done)) (HOW.out w2 HF2.out).1 ⟨w2.heap.size, 0, none⟩ (.int .i64 x) (by first | rfl | (simp; done)) (cell_one_new _ _ _) rfl (by omega) (by omega) (HOW.out w2 HF2.out).2 ?_
              intro v4 w4 ho4 hg4
              have HM4 := Lib.hid (HST.out.moreX H2.out (HFD.out.trans HF2.out) ho4 hg4)
              obtain ⟨A4, c4, hv4, hst4⟩ := HM4.out
              have HV4 := Lib.hid hst4
              have d0 := HBK.out _ _ HF2.out hg4
              subst hv4
              clear ho4 hg4 hst4 HM4
              refine hK.out _ _ trivial (fun hHeld => ?_)
              clear hK K
              (try simp only [Act.put, List.setIfInBounds_toArray, List.set_cons_zero, List.set_cons_succ])
              refine take_want (i := 7) (v := ?v7k18) rfl (by kernel_rfl) (by kernel_rfl) (by kernel_rfl) (fun _ _ _ h => h) (by rfl) ?y7k18 (by assumption) ?r7k18
              case y7k18 => (intro w hSw; go_simp; all_goals with_reducible rfl)
              (try simp only [Act.put, List.setIfInBounds_toArray, List.set_cons_zero, List.set_cons_succ])
              refine wpAnyH_ready (rs := [8]) (by kernel_rfl) (by simp) ?_
              refine AllReadyH.cons rfl (fun K hK => ?_) AllReadyH.nil
              have o2 := d0.1
              have of2 := d0.2
              go_simp
              clear o2 of2 d0
              refine hK.out _ _ trivial (fun hHeld => ?_)
              clear hK K
              (try simp only [Act.put, List.setIfInBounds_toArray, List.set_cons_zero, List.set_cons_succ])
              refine wpAnyH_done (by kernel_rfl) ?_ _
              go_wp2_with fail
              go_roundw
              case rel => exact ⟨l + 1, _, A4, c4, _, by omega, by go_num, HV4, HTX.out⟩
              case measure => simp [RowKit.intOf]; omega
        · obtain rfl : l = m := by omega
          have hge : ¬ (l : Int) < (l : Int) := by omega
          have hXe : X0 = X ∧ s3 = s := by
            have h1 := HX.out
            rw [← HXS.out] at h1
            exact ⟨congrArg Prod.fst h1, congrArg Prod.snd h1⟩
          obtain ⟨rfl, rfl⟩ := hXe
          obtain ⟨_, _, _, hQ⟩ := HCL.out wr HST.out.fr
          have q0 : wr.cell? ⟨w.heap.size + 1 + 1, 0, none⟩ = some (.int .i64 0) := by rw [show w.heap.size + 1 + 1 = w.heap.size + 2 from rfl, hQ.cell 0]; rfl
          have q1 : wr.cell? ⟨w.heap.size + 1 + 1, 1, none⟩ = some (.slice none 0 0) := by rw [show w.heap.size + 1 + 1 = w.heap.size + 2 from rfl, hQ.cell 1]; rfl
          have q2 : wr.cell? ⟨w.heap.size + 1 + 1, 2, none⟩ = some (.slice none 0 0) := by rw [show w.heap.size + 1 + 1 = w.heap.size + 2 from rfl, hQ.cell 2]; rfl
          have f0 : wr.frozen? ⟨w.heap.size + 1 + 1, 0, none⟩ = false := hQ.frozen 0
          have f1 : wr.frozen? ⟨w.heap.size + 1 + 1, 1, none⟩ = false := hQ.frozen 1
          have f2 : wr.frozen? ⟨w.heap.size + 1 + 1, 2, none⟩ = false := hQ.frozen 2
          have e0 : wr.cell? ⟨e7, 0, none⟩ = some (.int .i64 t) := by rw [HST.out.blk.cell 0]; rfl
          have e1 : wr.cell? ⟨e7, 1, none⟩ = some (.slice E k q) := by rw [HST.out.blk.cell 1]; rfl
          have e2 : wr.cell? ⟨e7, 2, none⟩ = some (.slice F l y) := by rw [HST.out.blk.cell 2]; rfl
          clear hlt HXS HX hQ
          go_wp2_with fail
          refine bodyPost_ret (v := .agg #[.int .i64 t, .slice E k q, .slice F l y]) (by simp [results, Tryd.results47, go_sem, q0, q1, q2]) rfl ?_
          have hG : w.heap.size + 1 + 1 < e7 + 1 := by have h1 := HST.out.old; have h2 := HZ1.out; omega
          have hG2 : w.heap.size + 1 + 1 ≤ wr.heap.size := by have h1 := HST.out.bsz; omega
          have hb5 : Below (w.heap.size + 1 + 1) wr (((wr.setCell ⟨w.heap.size + 1 + 1, 0, none⟩ (.int .i64 t)).setCell ⟨w.heap.size + 1 + 1, 1, none⟩ (.slice E k q)).setCell ⟨w.heap.size + 1 + 1, 2, none⟩ (.slice F l y)) :=
            (((Below.refl _ _).setCell (p := ⟨w.heap.size + 1 + 1, 0, none⟩) (Nat.le_refl _) _).setCell (p := ⟨w.heap.size + 1 + 1, 1, none⟩) (Nat.le_refl _) _).setCell (p := ⟨w.heap.size + 1 + 1, 2, none⟩) (Nat.le_refl _) _
          have od1 := own_set' (o := 0) (u := .int .i64 t) HST.out.od (own_apart HST.out.od hG)
          have od2 := own_set' (o := 1) (u := .slice E k q) od1 (own_apart od1 hG)
          have od3 := own_set' (o := 2) (u := .slice F l y) od2 (own_apart od2 hG)
          have ox1 := own_set' (o := 0) (u := .int .i64 t) HST.out.ox (own_apart HST.out.ox hG)
          have ox2 := own_set' (o := 1) (u := .slice E k q) ox1 (own_apart ox1 hG)
          have ox3 := own_set' (o := 2) (u := .slice F l y) ox2 (own_apart ox2 hG)
          have hsz := HST.out.fr.size
          have hsz1 := HB1.out.size
          exact ⟨E, q, F, y, rfl, own_less od3 (by omega), own_less ox3 (by omega), HST.out.st.under hb5 (by omega) (by omega), ((Fr.of_below HB1.out).trans HST.out.fr).thenBelow hb5 (by omega) (by have := hb5.size; omega)⟩
end Go.Proofs.YthogafecplhckaaDoor
