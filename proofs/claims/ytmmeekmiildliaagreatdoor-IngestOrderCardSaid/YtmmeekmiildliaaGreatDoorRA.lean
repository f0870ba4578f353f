/- What lies near a block that is written to; rows as they lie; the three Clones. -/
import Derived.Test.YtmmeekmiildliaaGreatDoorMZ
namespace Go.Proofs.YtmmeekmiildliaaGreatDoor
open Go.RowKit
set_option linter.unusedSimpArgs false
set_option linter.unusedVariables false
/-- Below block number B, but for block k, the world w' is as w was. -/
structure Near (k B : Nat) (w w' : World) : Prop where
  os : w'.os = w.os
  tape : w'.tape = w.tape
  output : w'.output = w.output
  size : w.heap.size ≤ w'.heap.size
  block : ∀ i, i < B → i ≠ k → w'.heap[i]? = w.heap[i]?
theorem Near.refl (k B : Nat) (w : World) : Near k B w w := ⟨rfl, rfl, rfl, Nat.le_refl _, fun _ _ _ => rfl⟩
theorem Near.trans {k B : Nat} {a b c : World} (h : Near k B a b) (g : Near k B b c) : Near k B a c :=
  ⟨g.os.trans h.os, g.tape.trans h.tape, g.output.trans h.output, Nat.le_trans h.size g.size, fun i hi hk => (g.block i hi hk).trans (h.block i hi hk)⟩
theorem Near.of {k B C : Nat} {w w' : World} (h : Below C w w') (hB : B ≤ C) : Near k B w w' := ⟨h.os, h.tape, h.output, h.size, fun i hi _ => h.block i (Nat.lt_of_lt_of_le hi hB)⟩
theorem Near.set {k B : Nat} {a w : World} (h : Near k B a w) {b o : Nat} (hb : b = k ∨ B ≤ b) (u : Value) : Near k B a (w.setCell ⟨b, o, none⟩ u) :=
  h.trans ⟨rfl, rfl, rfl, by simp [World.setCell], fun i hi hk => Below.heap_setCell _ _ _ _ (by simp; omega)⟩
theorem Near.below {k B C : Nat} {w w' : World} (h : Near k B w w') (hk : C ≤ k) (hB : C ≤ B) : Below C w w' := ⟨h.os, h.tape, h.output, h.size, fun i hi => h.block i (by omega) (by omega)⟩
theorem Near.cell {k B : Nat} {w w' : World} (h : Near k B w w') {b o : Nat} {v : Value} (hc : w.cell? ⟨b, o, none⟩ = some v) (hb : b < B) (hk : b ≠ k) : w'.cell? ⟨b, o, none⟩ = some v := by
  rw [← hc]; simp only [World.cell?, h.block b hb hk]
theorem Near.row {k B : Nat} {w w' : World} (h : Near k B w w') {A : Option Addr} {xs : List Value} (hA : Row w A xs) (hB : w.heap.size ≤ B) (hk : ∀ b off, A = some ⟨b, off, none⟩ → b ≠ k) : Row w' A xs := by
  rcases hA with h0 | ⟨b, off, rfl, hc⟩
  · exact .inl h0
  · exact .inr ⟨b, off, rfl, fun j u hu => h.cell (hc j u hu) (Nat.lt_of_lt_of_le (lt_of_cell (hc j u hu)) hB) (hk b off rfl)⟩
theorem Near.own {k B : Nat} {w w' : World} (h : Near k B w w') {C : Nat} {e : TypeId} {size : Nat} {v : Value} {n : Nat} {xs : List Value} (ho : w.ownsRow C e size v n xs) (hB : w.heap.size ≤ B) (hk : v.ownBlock ≠ some k) : w'.ownsRow C e size v n xs := by
  refine ho.kept (row := some k) ⟨h.os, h.tape, h.output, h.size, fun i hi hne => h.block i (by omega) (by intro e; subst e; exact hne rfl)⟩ ?_
  exact .inr hk
/-- What lies in a row's cells, beside its numbers. -/
structure RC where
  D : Option Addr
  n : Nat
  c : Nat
  G : Option Addr
  gn : Nat
  gc : Nat
abbrev RZ := RC × RV
def RV.zero : RV := ⟨0, [], 0, []⟩
def RC.zero : RC := ⟨none, 0, 0, none, 0, 0⟩
def encR (z : RZ) : List Value := [.int .i64 z.2.t, .slice z.1.D z.1.n z.1.c, .int .i64 z.2.count, .slice z.1.G z.1.gn z.1.gc]
/-- What the cells lead to is the row. -/
structure Good (w : World) (z : RZ) : Prop where
  rd : Row w z.1.D (texts z.2.dims)
  nd : z.1.n = z.2.dims.length
  cd : z.1.n ≤ z.1.c
  ad : z.1.D = none → z.1.c = 0
  sd : z.1.n * 16 ≤ 140737488355328
  rg : Row w z.1.G (cellsG z.2.aggs)
  ng : z.1.gn = z.2.aggs.length
  cg : z.1.gn ≤ z.1.gc
  ag : z.1.G = none → z.1.gc = 0
  sg : z.1.gn * 24 ≤ 140737488355328
theorem Good.zero (w : World) : Good w (RC.zero, RV.zero) := ⟨.inl rfl, rfl, Nat.le_refl _, fun _ => rfl, by simp [RC.zero], .inl rfl, rfl, Nat.le_refl _, fun _ => rfl, by simp [RC.zero]⟩
theorem Good.keep {w w' : World} {z : RZ} (h : Good w z) (hb : Below w.heap.size w w') : Good w' z :=
  { h with rd := h.rd.keep (Nat.le_refl _) hb, rg := h.rg.keep (Nat.le_refl _) hb }
/-- A row whose lists are one's own, from block B on. -/
structure Owned (B : Nat) (w : World) (z : RZ) : Prop where
  d : w.ownsRow B 9 1 (.slice z.1.D z.1.n z.1.c) z.1.n (texts z.2.dims)
  g : w.ownsRow B 64 3 (.slice z.1.G z.1.gn z.1.gc) z.1.gn (cellsG z.2.aggs)
  sd : z.1.n * 16 ≤ 140737488355328
  sg : z.1.gn * 24 ≤ 140737488355328
theorem Owned.zero (B : Nat) (w : World) : Owned B w (RC.zero, RV.zero) := ⟨World.ownsRow_nil _ _ _ _, World.ownsRow_nil _ _ _ _, by simp [RC.zero], by simp [RC.zero]⟩
theorem Owned.keep {B : Nat} {w w' : World} {z : RZ} (h : Owned B w z) (hb : Below w.heap.size w w') : Owned B w' z := ⟨own_below h.d hb, own_below h.g hb, h.sd, h.sg⟩
theorem own_less {B C : Nat} {w : World} {e : TypeId} {size : Nat} {v : Value} {n : Nat} {xs : List Value} (h : w.ownsRow B e size v n xs) (hC : C ≤ B) : w.ownsRow C e size v n xs :=
  ⟨h.1, h.2.imp id fun ⟨g, cap, cur, e1, e2, e3⟩ => ⟨g, cap, cur, e1, Nat.le_trans hC e2, e3⟩⟩
theorem Owned.less {B C : Nat} {w : World} {z : RZ} (h : Owned B w z) (hC : C ≤ B) : Owned C w z := ⟨own_less h.d hC, own_less h.g hC, h.sd, h.sg⟩
theorem Owned.good {B : Nat} {w : World} {z : RZ} (h : Owned B w z) : Good w z := by
  obtain ⟨A, c, e, hr, hc, ha⟩ := own_slice h.d
  obtain ⟨hn, A', c', e', hr', hc', _, ha'⟩ := own_slice3 h.g
  cases e; cases e'
  refine ⟨hr, ?_, hc, ha, h.sd, hr', hn, hc', ha', h.sg⟩
  have := h.d.1; unfold texts at this; simpa using this.symm
def cellsR (Z : List RZ) : List Value := Z.flatMap encR
theorem cellsR_app (Z Y : List RZ) : cellsR (Z ++ Y) = cellsR Z ++ cellsR Y := by simp [cellsR]
theorem cellsR_cons (z : RZ) (Z : List RZ) : cellsR (z :: Z) = encR z ++ cellsR Z := by simp [cellsR]
theorem cellsR_length : ∀ Z : List RZ, (cellsR Z).length = Z.length * 4 := by
  intro Z
  induction Z with
  | nil => rfl
  | cons z Z ih => rw [cellsR_cons, List.length_append, ih, List.length_cons]; simp [encR]; omega
theorem cellsR_get : ∀ (Z : List RZ) (k : Nat) (h : k < Z.length) (j : Nat) (u : Value), (encR Z[k])[j]? = some u → (cellsR Z)[k * 4 + j]? = some u := by
  intro Z
  induction Z with
  | nil => intro k h; simp at h
  | cons z Z ih =>
    intro k h j u hu
    rw [cellsR_cons]
    cases k with
    | zero =>
      rw [Nat.zero_mul, Nat.zero_add, List.getElem?_append_left]
      · exact hu
      · rcases Nat.lt_or_ge j (encR z).length with h1 | h1
        · exact h1
        · simp only [List.getElem_cons_zero] at hu; rw [List.getElem?_eq_none h1] at hu; cases hu
    | succ k =>
      have := ih k (by simpa using h) j u (by simpa using hu)
      rw [List.getElem?_append_right (by simp [encR]; omega), ← this]
      congr 1; simp [encR]; omega
theorem one_cellsR (Z : List RZ) : ∀ u ∈ cellsR Z, u.oneCell' = true := by
  intro u hu
  unfold cellsR at hu
  obtain ⟨z, _, hz⟩ := List.mem_flatMap.1 hu
  simp only [encR, List.mem_cons, List.not_mem_nil, or_false] at hz
  rcases hz with rfl | rfl | rfl | rfl <;> rfl
theorem one_cellsG (L : List Ag) : ∀ u ∈ cellsG L, u.oneCell' = true := by
  intro u hu
  unfold cellsG at hu
  obtain ⟨z, _, hz⟩ := List.mem_flatMap.1 hu
  simp only [List.mem_cons, List.not_mem_nil, or_false] at hz
  rcases hz with rfl | rfl | rfl <;> rfl
/-- A slice of rows: its cells, and what they lead to. -/
structure RowsC (w : World) (A : Option Addr) (Z : List RZ) : Prop where
  row : Row w A (cellsR Z)
  good : ∀ z ∈ Z, Good w z
theorem RowsC.keep {w w' : World} {A : Option Addr} {Z : List RZ} (h : RowsC w A Z) (hb : Below w.heap.size w w') : RowsC w' A Z := ⟨h.row.keep (Nat.le_refl _) hb, fun z hz => (h.good z hz).keep hb⟩
theorem RowsC.at {w : World} {A : Option Addr} {Z : List RZ} {k : Nat} (h : RowsC w A Z) (hk : k < Z.length) :
    ∃ b off, A = some ⟨b, off, none⟩ ∧ w.cell? ⟨b, off + k * 4, none⟩ = some (.int .i64 Z[k].2.t) ∧ w.cell? ⟨b, off + k * 4 + 1, none⟩ = some (.slice Z[k].1.D Z[k].1.n Z[k].1.c) ∧ w.cell? ⟨b, off + k * 4 + 2, none⟩ = some (.int .i64 Z[k].2.count) ∧ w.cell? ⟨b, off + k * 4 + 3, none⟩ = some (.slice Z[k].1.G Z[k].1.gn Z[k].1.gc) := by
  rcases h.row with h0 | ⟨b, off, rfl, hc⟩
  · have := cellsR_length Z; rw [h0] at this; simp at this; omega
  · refine ⟨b, off, rfl, ?_, ?_, ?_, ?_⟩
    · exact hc _ _ (cellsR_get Z k hk 0 _ rfl)
    · have := hc _ _ (cellsR_get Z k hk 1 _ rfl); rwa [← Nat.add_assoc] at this
    · have := hc _ _ (cellsR_get Z k hk 2 _ rfl); rwa [← Nat.add_assoc] at this
    · have := hc _ _ (cellsR_get Z k hk 3 _ rfl); rwa [← Nat.add_assoc] at this
theorem RowsC.rowsM {w : World} {A : Option Addr} {Z : List RZ} (h : RowsC w A Z) : RowsM w A (Z.map Prod.snd) := by
  rcases Nat.eq_zero_or_pos Z.length with h0 | h0
  · exact .inl (by rw [List.eq_nil_of_length_eq_zero h0]; rfl)
  · obtain ⟨b, off, e, _⟩ := h.at h0
    refine .inr ⟨b, off, e, fun i hi => ?_⟩
    have hi' : i < Z.length := by simpa using hi
    obtain ⟨b', off', e', c0, c1, c2, c3⟩ := h.at hi'
    rw [e] at e'; cases e'
    have hg := h.good _ (List.getElem_mem hi')
    have q : (Z.map Prod.snd)[i] = Z[i].2 := by simp
    rw [q]
    exact ⟨_, _, _, _, _, _, c0, c1, c2, c3, hg.rd, hg.nd, by have := hg.sd; omega, hg.rg, hg.ng, by have := hg.sg; omega⟩
theorem info51 : (Tryz.prog.info? 64).map (fun i => (i.zero, i.size, i.bytes)) = some (some (.agg #[.int .i64 0, .int .i64 0, .int .i64 0]), 3, 24) := by kernel_rfl
theorem info27 : (Tryz.prog.info? 59).map (fun i => (i.zero, i.size, i.bytes)) = some (some (.agg #[.int .i64 0, .slice none 0 0, .int .i64 0, .slice none 0 0]), 4, 64) := by kernel_rfl
theorem eql_nil22 (A : Option Addr) (n c : Nat) (w : World) : (binOp .eql 22 (.slice A n c) (.slice none 0 0)).run Tryz.prog w = .ok (.bool A.isNone) w := by
  simp only [binOp]
  rw [Sem.run_bind, run_equal_slice_nil w 22 9 A n c Tryz.underlying22]; rfl
set_option maxRecDepth 100000 in
set_option maxHeartbeats 8000000 in
theorem cloneT_any (A : Option Addr) (n c : Nat) (xs : List Value) (w : World) (hA : Row w A xs) (hx : xs.length = n * 1) (h1 : ∀ u ∈ xs, u.oneCell' = true) (hnc : n ≤ c) (ha : A = none → c = 0) (hs : n * 16 ≤ 140737488355328) :
    Calls Tryz.prog 36 #[.slice A n c] w fun e w' => ∃ D k, e = .returned (.slice D n k) ∧ w'.ownsRow w.heap.size 9 1 (.slice D n k) n xs ∧ Below w.heap.size w w' := by
  have HA := Lib.hid hA
  have HX := Lib.hid hx
  have HN := Lib.hid hnc
  have H1 := Lib.hid h1
  have HS := Lib.hid hs
  clear hA hx hnc h1 hs
  cases A with
  | none =>
    have e1 : c = 0 := ha rfl
    have e2 : n = 0 := by have := HN.out; omega
    subst e1 e2
    have e3 : xs = [] := List.eq_nil_of_length_eq_zero (by have := HX.out; omega)
    subst e3
    clear ha
    have hq := eql_nil22 none 0 0
    go_enter Tryz.func36, Tryz.ntmps36
    go_wp2_with fail
    go_ret
    exact ⟨_, _, rfl, World.ownsRow_nil _ _ _ _, Below.refl _ _⟩
  | some a =>
    clear ha
    obtain ⟨i0, hi0, hz0, hz1, hz2⟩ := info_parts info9
    have HM : Hid (n ≤ maxLen) := Lib.hid (by have := HS.out; unfold maxLen; omega)
    have hq := eql_nil22 (some a) n c
    go_enter Tryz.func36, Tryz.ntmps36
    go_wp2_with (at_builtin; refine wpList_append_own_at _ rfl _ _ 22 rfl w.heap.size 9 i0 (.string ⟨#[]⟩) 1 16 Tryz.underlying22 hi0 hz0 hz1 hz2 rfl (by decide) _ 0 [] rfl (own_empty (Nat.le_refl _)) a n c xs rfl HX.out ((HA.out.keep (Nat.le_refl _) (bpush (Below.refl _ _) _)).at') H1.out (by rw [Nat.zero_add]; exact HM.out) (by rw [Nat.zero_add]; exact HS.out) (by simp) ?_; intro v5 w5 ho5 hg5 _ _)
    have hb5 : Below w.heap.size w w5 := ⟨hg5.os, hg5.tape, hg5.output, by have := hg5.size; simp at this; omega, fun i hi => by
      rw [hg5.block i (by simp; omega) (by intro e; have e2 : i = w.heap.size := Option.some.inj e; omega)]
      exact Below.heap_alloc _ _ _ hi⟩
    rw [Nat.zero_add, List.nil_append] at ho5
    have hv : ∃ D k, v5 = .slice D n k := by
      rcases ho5.2 with ⟨rfl, h0⟩ | ⟨g, cap, cur, rfl, _⟩
      · exact ⟨none, 0, by rw [h0]⟩
      · exact ⟨_, _, rfl⟩
    obtain ⟨D, k, rfl⟩ := hv
    have HO5 := Lib.hid ho5
    have HB5 := Lib.hid hb5
    clear ho5 hg5 hb5
    go_wp2_with fail
    go_ret
    exact ⟨_, _, rfl, HO5.out, HB5.out⟩
theorem eql_nil25 (A : Option Addr) (n c : Nat) (w : World) : (binOp .eql 57 (.slice A n c) (.slice none 0 0)).run Tryz.prog w = .ok (.bool A.isNone) w := by
  simp only [binOp]
  rw [Sem.run_bind, run_equal_slice_nil w 57 64 A n c Tryz.underlying57]; rfl
set_option maxRecDepth 100000 in
set_option maxHeartbeats 8000000 in
theorem cloneG_any (A : Option Addr) (n c : Nat) (xs : List Value) (w : World) (hA : Row w A xs) (hx : xs.length = n * 3) (h1 : ∀ u ∈ xs, u.oneCell' = true) (hnc : n ≤ c) (ha : A = none → c = 0) (hs : n * 24 ≤ 140737488355328) :
    Calls Tryz.prog 73 #[.slice A n c] w fun e w' => ∃ D k, e = .returned (.slice D n k) ∧ w'.ownsRow w.heap.size 64 3 (.slice D n k) n xs ∧ Below w.heap.size w w' := by
  have HA := Lib.hid hA
  have HX := Lib.hid hx
  have HN := Lib.hid hnc
  have H1 := Lib.hid h1
  have HS := Lib.hid hs
  clear hA hx hnc h1 hs
  cases A with
  | none =>
    have e1 : c = 0 := ha rfl
    have e2 : n = 0 := by have := HN.out; omega
    subst e1 e2
    have e3 : xs = [] := List.eq_nil_of_length_eq_zero (by have := HX.out; omega)
    subst e3
    clear ha
    have hq := eql_nil25 none 0 0
    go_enter Tryz.func73, Tryz.ntmps73
    go_wp2_with fail
    go_ret
    exact ⟨_, _, rfl, World.ownsRow_nil _ _ _ _, Below.refl _ _⟩
  | some a =>
    clear ha
    obtain ⟨i0, hi0, hz0, hz1, hz2⟩ := info_parts info51
    have HM : Hid (n ≤ maxLen) := Lib.hid (by have := HS.out; unfold maxLen; omega)
    have hq := eql_nil25 (some a) n c
    go_enter Tryz.func73, Tryz.ntmps73
    go_wp2_with (at_builtin; refine wpList_append_own_at _ rfl _ _ 57 rfl w.heap.size 64 i0 (.agg #[.int .i64 0, .int .i64 0, .int .i64 0]) 3 24 Tryz.underlying57 hi0 hz0 hz1 hz2 rfl (by decide) _ 0 [] rfl (own_empty (Nat.le_refl _)) a n c xs rfl HX.out ((HA.out.keep (Nat.le_refl _) (bpush (Below.refl _ _) _)).at') H1.out (by rw [Nat.zero_add]; exact HM.out) (by rw [Nat.zero_add]; exact HS.out) (by simp) ?_; intro v5 w5 ho5 hg5 _ _)
    have hb5 : Below w.heap.size w w5 := ⟨hg5.os, hg5.tape, hg5.output, by have := hg5.size; simp at this; omega, fun i hi => by
      rw [hg5.block i (by simp; omega) (by intro e; have e2 : i = w.heap.size := Option.some.inj e; omega)]
      exact Below.heap_alloc _ _ _ hi⟩
    rw [Nat.zero_add, List.nil_append] at ho5
    have hv : ∃ D k, v5 = .slice D n k := by
      rcases ho5.2 with ⟨rfl, h0⟩ | ⟨g, cap, cur, rfl, _⟩
      · exact ⟨none, 0, by rw [h0]⟩
      · exact ⟨_, _, rfl⟩
    obtain ⟨D, k, rfl⟩ := hv
    have HO5 := Lib.hid ho5
    have HB5 := Lib.hid hb5
    clear ho5 hg5 hb5
    go_wp2_with fail
    go_ret
    exact ⟨_, _, rfl, HO5.out, HB5.out⟩
theorem eql_nil41 (A : Option Addr) (n c : Nat) (w : World) : (binOp .eql 46 (.slice A n c) (.slice none 0 0)).run Tryz.prog w = .ok (.bool A.isNone) w := by
  simp only [binOp]
  rw [Sem.run_bind, run_equal_slice_nil w 46 59 A n c Tryz.underlying46]; rfl
set_option maxRecDepth 100000 in
set_option maxHeartbeats 8000000 in
theorem cloneR_any (A : Option Addr) (n c : Nat) (xs : List Value) (w : World) (hA : Row w A xs) (hx : xs.length = n * 4) (h1 : ∀ u ∈ xs, u.oneCell' = true) (hnc : n ≤ c) (ha : A = none → c = 0) (hs : n * 64 ≤ 140737488355328) :
    Calls Tryz.prog 51 #[.slice A n c] w fun e w' => ∃ D k, e = .returned (.slice D n k) ∧ w'.ownsRow w.heap.size 59 4 (.slice D n k) n xs ∧ Below w.heap.size w w' := by
  have HA := Lib.hid hA
  have HX := Lib.hid hx
  have HN := Lib.hid hnc
  have H1 := Lib.hid h1
  have HS := Lib.hid hs
  clear hA hx hnc h1 hs
  cases A with
  | none =>
    have e1 : c = 0 := ha rfl
    have e2 : n = 0 := by have := HN.out; omega
    subst e1 e2
    have e3 : xs = [] := List.eq_nil_of_length_eq_zero (by have := HX.out; omega)
    subst e3
    clear ha
    have hq := eql_nil41 none 0 0
    go_enter Tryz.func51, Tryz.ntmps51
    go_wp2_with fail
    go_ret
    exact ⟨_, _, rfl, World.ownsRow_nil _ _ _ _, Below.refl _ _⟩
  | some a =>
    clear ha
    obtain ⟨i0, hi0, hz0, hz1, hz2⟩ := info_parts info27
    have HM : Hid (n ≤ maxLen) := Lib.hid (by have := HS.out; unfold maxLen; omega)
    have hq := eql_nil41 (some a) n c
    go_enter Tryz.func51, Tryz.ntmps51
    go_wp2_with (at_builtin; refine wpList_append_own_at _ rfl _ _ 46 rfl w.heap.size 59 i0 (.agg #[.int .i64 0, .slice none 0 0, .int .i64 0, .slice none 0 0]) 4 64 Tryz.underlying46 hi0 hz0 hz1 hz2 rfl (by decide) _ 0 [] rfl (own_empty (Nat.le_refl _)) a n c xs rfl HX.out ((HA.out.keep (Nat.le_refl _) (bpush (Below.refl _ _) _)).at') H1.out (by rw [Nat.zero_add]; exact HM.out) (by rw [Nat.zero_add]; exact HS.out) (by simp) ?_; intro v5 w5 ho5 hg5 _ _)
    have hb5 : Below w.heap.size w w5 := ⟨hg5.os, hg5.tape, hg5.output, by have := hg5.size; simp at this; omega, fun i hi => by
      rw [hg5.block i (by simp; omega) (by intro e; have e2 : i = w.heap.size := Option.some.inj e; omega)]
      exact Below.heap_alloc _ _ _ hi⟩
    rw [Nat.zero_add, List.nil_append] at ho5
    have hv : ∃ D k, v5 = .slice D n k := by
      rcases ho5.2 with ⟨rfl, h0⟩ | ⟨g, cap, cur, rfl, _⟩
      · exact ⟨none, 0, by rw [h0]⟩
      · exact ⟨_, _, rfl⟩
    obtain ⟨D, k, rfl⟩ := hv
    have HO5 := Lib.hid ho5
    have HB5 := Lib.hid hb5
    clear ho5 hg5 hb5
    go_wp2_with fail
    go_ret
    exact ⟨_, _, rfl, HO5.out, HB5.out⟩
end Go.Proofs.YtmmeekmiildliaaGreatDoor
