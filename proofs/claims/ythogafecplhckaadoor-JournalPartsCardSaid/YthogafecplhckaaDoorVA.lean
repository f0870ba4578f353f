/- What the walks of this seat say of a slice of cells, and plain facts. -/
import Derived.Test.YthogafecplhckaaDoorMA
import Derived.Test.YthogafecplhckaaDoorGY
import Derived.WalkKit
import Derived.ProofKit
import Derived.OpenShut
import Derived.Below
import Derived.Lib.Hide
import Derived.WalkLawsBesides
import Derived.Laws.OwnMore
import Derived.Deep.RegionHeld3
import Derived.Deep.DeepCutAuto
import Derived.Maps.AppendAt
import Derived.Maps.RangeWalk
import Derived.Maps.OwnSet
import Derived.Deep.QuietTactic
import Derived.BigQuiet
import Derived.Laws.EntriesVeiled
namespace Go.Proofs.YthogafecplhckaaDoor
open Go.RowKit

theorem row_grown9 {w w' : World} {row : Option Nat} {g off : Nat} {xs : List Value} (hg : w.grownBy w' row) (h : Row w (some ⟨g, off, none⟩) xs) (hne : some g ≠ row) : Row w' (some ⟨g, off, none⟩) xs := by
  rcases h with h | ⟨b, off', he, hc⟩
  · exact .inl h
  · cases he
    exact .inr ⟨_, _, rfl, fun j u hu => hg.cell (hc j u hu) hne⟩
theorem grown_own {w w' : World} {B : Nat} {v : Value} {e : TypeId} {n : Nat} {xs : List Value} (hown : w.ownsRow B e 1 v n xs) (hg : w.grownBy w' v.ownBlock) (h : B ≤ w.heap.size) : Below B w w' :=
  ⟨hg.os, hg.tape, hg.output, hg.size, fun i hi => hg.block i (by omega) (by
    rcases hown.2 with ⟨rfl, _⟩ | ⟨g, cap, cur, rfl, hb, _⟩
    · simp [Value.ownBlock]
    · simp [Value.ownBlock]; omega)⟩
def dat (s : ByteArray) : List UInt8 := s.data.toList
theorem dat_inj {a b : ByteArray} (h : dat a = dat b) : a = b := by
  cases a; cases b; congr 1; exact Array.toList_inj.1 h
def ofD (l : List UInt8) : ByteArray := ⟨l.toArray⟩
theorem dat_of (l : List UInt8) : dat (ofD l) = l := by simp [dat, ofD]
theorem of_dat (s : ByteArray) : ofD (dat s) = s := dat_inj (dat_of _)
def ltT (a b : ByteArray) : Prop := dat a < dat b
instance (a b : ByteArray) : Decidable (ltT a b) := by unfold ltT; infer_instance
theorem lt_irr (a : ByteArray) : ¬ ltT a a := List.lt_irrefl _
theorem lt_tr {a b c : ByteArray} (h : ltT a b) (k : ltT b c) : ltT a c := List.lt_trans h k
theorem lt_asy {a b : ByteArray} (h : ltT a b) : ¬ ltT b a := fun k => lt_irr a (lt_tr h k)
theorem lt_tri (a b : ByteArray) : ltT a b ∨ a = b ∨ ltT b a := by
  by_cases h : ltT a b
  · exact .inl h
  · by_cases k : ltT b a
    · exact .inr (.inr k)
    · exact .inr (.inl (dat_inj (List.le_antisymm (List.not_lt.1 k) (List.not_lt.1 h))))
def rising (D : List ByteArray) : Prop := D.Pairwise ltT
theorem rising_ext : ∀ {D E : List ByteArray}, rising D → rising E → (∀ s, s ∈ D ↔ s ∈ E) → D = E := by
  intro D
  induction D with
  | nil => intro E _ _ h; cases E with
    | nil => rfl
    | cons b E => have := (h b).2 (List.mem_cons_self ..); cases this
  | cons a D ih =>
    intro E hD hE h
    cases E with
    | nil => have := (h a).1 (List.mem_cons_self ..); cases this
    | cons b E =>
      obtain ⟨d1, d2⟩ := List.pairwise_cons.1 hD
      obtain ⟨e1, e2⟩ := List.pairwise_cons.1 hE
      have hab : a = b := by
        have h1 := (h a).1 (List.mem_cons_self ..)
        have h2 := (h b).2 (List.mem_cons_self ..)
        rcases List.mem_cons.1 h1 with h1 | h1
        · exact h1
        · rcases List.mem_cons.1 h2 with h2 | h2
          · exact h2.symm
          · exact absurd (d1 b h2) (lt_asy (e1 a h1))
      subst hab
      congr 1
      refine ih d2 e2 fun s => ⟨fun hs => ?_, fun hs => ?_⟩
      · rcases List.mem_cons.1 ((h s).1 (List.mem_cons_of_mem _ hs)) with e | e
        · exact absurd (e ▸ d1 s hs) (lt_irr s)
        · exact e
      · rcases List.mem_cons.1 ((h s).2 (List.mem_cons_of_mem _ hs)) with e | e
        · exact absurd (e ▸ e1 s hs) (lt_irr s)
        · exact e
theorem rising_lt {D : List ByteArray} (h : rising D) {i j : Nat} (hij : i < j) (hj : j < D.length) : ltT (D[i]'(by omega)) D[j] := List.pairwise_iff_getElem.1 h i j (by omega) hj hij
theorem info5 : (Tryd.prog.info? 5).map (fun i => (i.zero, i.size, i.bytes)) = some (some (.int .u8 0), 1, 1) := by kernel_rfl
section
variable {w w' : World} {g : Nat} {t : TypeId} {cs : Array Value}
def Blk (w : World) (g : Nat) (t : TypeId) (cs : Array Value) : Prop := w.heap[g]? = some (.cells cs t (0, 0))
theorem lt_of_heap {o : Obj} (h : w.heap[g]? = some o) : g < w.heap.size := (Array.getElem?_eq_some_iff.1 h).1
theorem Blk.lt (h : Blk w g t cs) : g < w.heap.size := lt_of_heap h
theorem Blk.cell (h : Blk w g t cs) (i : Nat) : w.cell? ⟨g, i, none⟩ = cs[i]? := cell_of_row w g i cs t (0, 0) h
theorem Blk.frozen (h : Blk w g t cs) (i : Nat) : w.frozen? ⟨g, i, none⟩ = false := by
  unfold Blk at h
  simp [World.frozen?, h]
theorem Blk.new (w : World) (t : TypeId) (cs : Array Value) : Blk (w.alloc (.cells cs t)) w.heap.size t cs := heap_alloc_new w _
theorem Blk.alloc (h : Blk w g t cs) (o : Obj) : Blk (w.alloc o) g t cs := (Below.heap_alloc w o g h.lt).trans h
theorem Blk.set_ (h : Blk w g t cs) (i : Nat) (u : Value) : Blk (w.setCell ⟨g, i, none⟩ u) g t (cs.setIfInBounds i u) := by
  unfold Blk at h ⊢
  simp [World.setCell, Array.getElem?_modify, h]
theorem Blk.far (h : Blk w g t cs) {p : Addr} (hp : g ≠ p.block) (u : Value) : Blk (w.setCell p u) g t cs := (Below.heap_setCell w p u g hp).trans h
theorem Blk.grown {row : Option Nat} (h : Blk w g t cs) (hg : w.grownBy w' row) (hr : row ≠ some g) : Blk w' g t cs := (hg.block g h.lt (Ne.symm hr)).trans h
theorem grown_none (h : Below w.heap.size w w') : w.grownBy w' none := ⟨h.os, h.tape, h.output, h.size, fun i hi _ => h.block i hi⟩
end
section
variable {W W' : World} {B size k : Nat} {e : TypeId} {v : Value} {xs : List Value}
theorem own_is (h : W.ownsRow B e size v k xs) : ∃ A c, v = .slice A k c := by
  rcases h.2 with ⟨rfl, h0⟩ | ⟨g, cap, cur, rfl, _⟩
  · exact ⟨none, 0, by rw [h0]⟩
  · exact ⟨_, _, rfl⟩
theorem _root_.Go.World.ownsRow.not_blk {g : Nat} {t : TypeId} {cs : Array Value} (h : W.ownsRow B e size v k xs) (hb : Blk W g t cs) (ht : t ≠ e) : v.ownBlock ≠ some g := by
  rcases h.2 with ⟨rfl, _⟩ | ⟨g', cap, cur, rfl, _, hc, _⟩
  · simp [Value.ownBlock]
  · intro e'
    obtain rfl : g' = g := by simpa [Value.ownBlock] using e'
    have := hc.symm.trans hb
    cases this; exact ht rfl
theorem own_not_loop {l : Nat} {r : Loop} (h : W.ownsRow B e size v k xs) (hl : W.heap[l]? = some (.loop r)) : v.ownBlock ≠ some l := by
  rcases h.2 with ⟨rfl, _⟩ | ⟨g', cap, cur, rfl, _, hc, _⟩
  · simp [Value.ownBlock]
  · intro e'
    obtain rfl : g' = l := by simpa [Value.ownBlock] using e'
    have := hc.symm.trans hl
    cases this
theorem own_not_def {l : Nat} {d : Option (List Deferred)} (h : W.ownsRow B e size v k xs) (hl : W.heap[l]? = some (.deferred d)) : v.ownBlock ≠ some l := by
  rcases h.2 with ⟨rfl, _⟩ | ⟨g', cap, cur, rfl, _, hc, _⟩
  · simp [Value.ownBlock]
  · intro e'
    obtain rfl : g' = l := by simpa [Value.ownBlock] using e'
    have := hc.symm.trans hl
    cases this
theorem loop_not_blk {l g : Nat} {r : Loop} {t : TypeId} {cs : Array Value} (hl : W.heap[l]? = some (.loop r)) (hb : Blk W g t cs) : l ≠ g := by
  rintro rfl; have := hl.symm.trans hb; cases this
theorem own_not_own {B2 size2 k2 : Nat} {e2 : TypeId} {v2 : Value} {xs2 : List Value} (h : W.ownsRow B e size v k xs) (h2 : W.ownsRow B2 e2 size2 v2 k2 xs2) (ht : e ≠ e2) : v.ownBlock = none ∨ v.ownBlock ≠ v2.ownBlock := by
  rcases h.2 with ⟨rfl, _⟩ | ⟨g', cap, cur, rfl, _, hc, _⟩
  · exact .inl rfl
  · refine .inr fun e' => ?_
    rcases h2.2 with ⟨rfl, _⟩ | ⟨g2, cap2, cur2, rfl, _, hc2, _⟩
    · simp [Value.ownBlock] at e'
    · obtain rfl : g' = g2 := by simpa [Value.ownBlock] using e'
      have := hc.symm.trans hc2
      cases this; exact ht rfl
end
theorem Blk.below {w w' : World} {g B : Nat} {t : TypeId} {cs : Array Value} (h : Blk w g t cs) (hb : Below B w w') (hg : g < B) : Blk w' g t cs := (hb.block g hg).trans h
theorem own_less {B C : Nat} {w : World} {e : TypeId} {size : Nat} {v : Value} {n : Nat} {xs : List Value} (h : w.ownsRow B e size v n xs) (hC : C ≤ B) : w.ownsRow C e size v n xs :=
  ⟨h.1, h.2.imp id fun ⟨g, cap, cur, e1, e2, e3⟩ => ⟨g, cap, cur, e1, Nat.le_trans hC e2, e3⟩⟩
theorem own_apart {w : World} {B g size : Nat} {e : TypeId} {v : Value} {n : Nat} {xs : List Value} (h : w.ownsRow B e size v n xs) (hg : g < B) : v.ownBlock ≠ some g := by
  rcases h.2 with ⟨rfl, _⟩ | ⟨g', cap, cur, rfl, hb, _⟩
  · simp [Value.ownBlock]
  · simp [Value.ownBlock]; omega
theorem own_fresh {w : World} {B size : Nat} {e : TypeId} {v : Value} {n : Nat} {xs : List Value} (h : w.ownsRow B e size v n xs) : v.ownBlock ≠ some w.heap.size := by
  intro e
  have := h.lt _ e
  omega
theorem own_set' {w : World} {B g o n size : Nat} {v u : Value} {e : TypeId} {xs : List Value} (h : w.ownsRow B e size v n xs) (hv : v.ownBlock ≠ some g) : (w.setCell ⟨g, o, none⟩ u).ownsRow B e size v n xs :=
  h.kept (row := some g) ⟨rfl, rfl, rfl, by simp [World.setCell], fun i hi hne => Below.heap_setCell w _ _ i (fun e => hne (by rw [e]))⟩ (.inr hv)
theorem step_append_at {w : World} {ops : Array Oper} {o : Oper} {a : Act} {K : Act → World → Prop} {Q : Exit → Act → World → Prop} {E : Prop} (hgd : o.guard = none) (s x : Operand) (t : TypeId)
    (ho : o.op = .call { callee := .builtin .append, args := #[s, x], argTypes := #[t, t] })
    (base : Nat) (e : TypeId) (i : TypeInfo) (z : Value) (size bytes : Nat) (ht : Tryd.prog.underlying t = some (.slice e)) (hi : Tryd.prog.info? e = some i) (hz : i.zero = some z)
    (hsize : i.size = size) (hby : i.bytes = bytes) (hzs : z.cells.size = size) (hsz : 0 < size)
    (v : Value) (n : Nat) (xs : List Value) (hs : a.eval s = v) (hown : w.ownsRow base e size v n xs)
    (ad : Addr) (m c : Nat) (news : List Value) (hx : a.eval x = .slice (some ad) m c) (hl : news.length = m * size) (hnews : ∀ j u, news[j]? = some u → w.cell? (ad.add j) = some u) (h1 : ∀ u ∈ news, u.oneCell' = true)
    (h63 : n + m ≤ maxLen) (hbytes : (n + m) * bytes ≤ 140737488355328) (hbase : base ≤ w.heap.size)
    (h : ∀ v' w', w'.ownsRow base e size v' (n + m) (xs ++ news) → w.grownBy w' v.ownBlock → (v'.ownBlock = v.ownBlock ∨ v'.ownBlock = some w.heap.size) → K (a.put o.dst v') w') :
    if Region.wanted o (yielded ops a.tmps) = true then Oper.wp Tryd.prog o a w K Q else E := by
  have hw : Region.wanted o (yielded ops a.tmps) = true := by simp [Region.wanted, hgd]
  rw [if_pos hw]
  obtain ⟨v', w', hr, h2, h3, h4, h5⟩ := run_append_own_at (P := Tryd.prog) w base t o.type e i z size bytes ht hi hz hsize hby hzs hsz v n xs hown ad m c news hl hnews h1 h63 hbytes hbase
  unfold Oper.wp execOp
  simp only [ho, resolve, invoke, builtin, Sem.run_bind, Sem.run_pure, Result.andThen_ok, List.map_toArray, List.map_cons, List.map_nil, hs, hx, hr]
  exact h v' w' h2 h3 h5
theorem eql_nil31 (A : Option Addr) (n c : Nat) (w : World) : (binOp .eql 25 (.slice A n c) (.slice none 0 0)).run Tryd.prog w = .ok (.bool A.isNone) w := by
  simp only [binOp]
  rw [Sem.run_bind, run_equal_slice_nil w 25 5 A n c Tryd.underlying25]; rfl
set_option maxRecDepth 100000 in
set_option maxHeartbeats 8000000 in
theorem cloneB_any (A : Option Addr) (n c : Nat) (xs : List Value) (w : World) (hA : Row w A xs) (hx : xs.length = n * 1) (h1 : ∀ u ∈ xs, u.oneCell' = true) (hnc : n ≤ c) (ha : A = none → c = 0) (hs : n * 1 ≤ 140737488355328) :
    Calls Tryd.prog 53 #[.slice A n c] w fun e w' => ∃ D k, e = .returned (.slice D n k) ∧ w'.ownsRow w.heap.size 5 1 (.slice D n k) n xs ∧ Below w.heap.size w w' := by
  have HA := Lib.hid hA
  have HX := Lib.hid hx
  have HN := Lib.hid hnc
  have H1 := Lib.hid h1
  have HS := Lib.hid hs
  clear hA hx hnc h1 hs
  cases A with
  | none =>
    have e1 : c = 0 := ha rfl
    have e2 : n = 0 := by have := HN.out; omega
    subst e1 e2
    have e3 : xs = [] := List.eq_nil_of_length_eq_zero (by have := HX.out; omega)
    subst e3
    clear ha
    have hq := eql_nil31 none 0 0
    go_enter Tryd.func53, Tryd.ntmps53
    go_wp2_with fail
    go_ret
    exact ⟨_, _, rfl, World.ownsRow_nil _ _ _ _, Below.refl _ _⟩
  | some a =>
    clear ha
    obtain ⟨i0, hi0, hz0, hz1, hz2⟩ := info_parts info5
    have HM : Hid (n ≤ maxLen) := Lib.hid (by have := HS.out; unfold maxLen; omega)
    have hq := eql_nil31 (some a) n c
    go_enter Tryd.func53, Tryd.ntmps53
    go_wp2_with (at_builtin; refine wpList_append_own_at _ rfl _ _ 25 rfl w.heap.size 5 i0 (.int .u8 0) 1 1 Tryd.underlying25 hi0 hz0 hz1 hz2 rfl (by decide) _ 0 [] rfl (own_empty (Nat.le_refl _)) a n c xs rfl HX.out ((HA.out.keep (Nat.le_refl _) (bpush (Below.refl _ _) _)).at') H1.out (by rw [Nat.zero_add]; exact HM.out) (by rw [Nat.zero_add]; exact HS.out) (by simp) ?_; intro v5 w5 ho5 hg5 _ _)
    have hb5 : Below w.heap.size w w5 := ⟨hg5.os, hg5.tape, hg5.output, by have := hg5.size; simp at this; omega, fun i hi => by
      rw [hg5.block i (by simp; omega) (by intro e; have e2 : i = w.heap.size := Option.some.inj e; omega)]
      exact Below.heap_alloc _ _ _ hi⟩
    rw [Nat.zero_add, List.nil_append] at ho5
    have hv : ∃ D k, v5 = .slice D n k := by
      rcases ho5.2 with ⟨rfl, h0⟩ | ⟨g, cap, cur, rfl, _⟩
      · exact ⟨none, 0, by rw [h0]⟩
      · exact ⟨_, _, rfl⟩
    obtain ⟨D, k, rfl⟩ := hv
    have HO5 := Lib.hid ho5
    have HB5 := Lib.hid hb5
    clear ho5 hg5 hb5
    go_wp2_with fail
    go_ret
    exact ⟨_, _, rfl, HO5.out, HB5.out⟩
end Go.Proofs.YthogafecplhckaaDoor
