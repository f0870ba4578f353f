/- CompactFunc (24): how many keys there are in a sorted list. -/
import Derived.Test.YtbccjkjibffbkaaMK
import Derived.Lib.SliceRun
namespace Go.Proofs.Ytbccjkjibffbkaa
open Go.RowKit Go.Shelf
set_option linter.unusedSimpArgs false
set_option linter.unusedVariables false
theorem keys_step {Z : List RZ} (hs : SortedF sF Z) {j : Nat} (h1 : 1 ≤ j) (hj : j < Z.length) : keysN ((Z.take (j + 1)).map Prod.snd) = if cmpV Z[j].2 (Z[j - 1]'(by omega)).2 = 0 then keysN ((Z.take j).map Prod.snd) else keysN ((Z.take j).map Prod.snd) + 1 := by
  have hle : ∀ i (hi : i < j), cmpV (Z[i]'(by omega)).2 (Z[j - 1]'(by omega)).2 ≤ 0 := fun i hi => by
    by_cases e : i = j - 1
    · subst e; rw [cmpV_self]; omega
    · exact List.pairwise_iff_getElem.1 hs i (j - 1) (by omega) (by omega) (by omega)
  have hex : (∃ a ∈ (Z.take j).map Prod.snd, cmpV a Z[j].2 = 0) ↔ cmpV Z[j].2 (Z[j - 1]'(by omega)).2 = 0 := by
    constructor
    · rintro ⟨a, ha, e⟩
      obtain ⟨z, hz, rfl⟩ := List.mem_map.1 ha
      obtain ⟨i, hi, rfl⟩ := List.mem_iff_getElem.1 hz
      rw [List.length_take] at hi
      rw [List.getElem_take] at e
      have h3 := hle i (by omega)
      have h4 : cmpV (Z[j - 1]'(by omega)).2 Z[j].2 ≤ 0 := List.pairwise_iff_getElem.1 hs (j - 1) j (by omega) hj (by omega)
      rcases Int.lt_or_eq_of_le h4 with h5 | h5
      · rw [← cmpV_right e, cmpV_neg] at h5
        omega
      · rw [cmpV_neg, h5]; rfl
    · intro e
      refine ⟨(Z[j - 1]'(by omega)).2, List.mem_map.2 ⟨Z[j - 1]'(by omega), List.mem_iff_getElem.2 ⟨j - 1, by rw [List.length_take]; omega, by rw [List.getElem_take]⟩, rfl⟩, ?_⟩
      rw [cmpV_neg, e]; rfl
  rw [take_snoc Z j hj, List.map_append, show ([Z[j]].map Prod.snd) = [Z[j].2] from rfl, keysN_snoc]
  by_cases h : cmpV Z[j].2 (Z[j - 1]'(by omega)).2 = 0
  · rw [if_pos h, if_pos (hex.2 h)]
  · rw [if_neg h, if_neg (fun g => h (hex.1 g))]
theorem keys_one {Z : List RZ} (h : 1 ≤ Z.length) : keysN ((Z.take 1).map Prod.snd) = 1 := by
  cases Z with
  | nil => simp at h
  | cons z Z => rfl
/-- The zero values that clear lays. -/
theorem run_clear_rows (w : World) (b o n c : Nat) (hn : 0 < n) (hc : ∀ j, j < n * 4 → (w.cell? ⟨b, o + j, none⟩).isSome = true) (hf : ∀ j, j < n * 4 → w.frozen? ⟨b, o + j, none⟩ = false) :
    ∃ w', (∀ ty, (Builtin.clear_ #[28] ty #[.slice (some ⟨b, o, none⟩) n c]).run Try.prog w = .ok (.tuple #[]) w') ∧ w.grownBy w' (some b) := by
  obtain ⟨i0, hi0, hz0, hz1, hz2⟩ := info_parts info27
  obtain ⟨xs, hxs⟩ : ∃ xs, xs = (Builtin.zeroCells (Value.agg #[.int .i64 0, .slice none 0 0, .int .i64 0, .slice none 0 0]).cells n).toList := ⟨_, rfl⟩
  have hzv : ∀ w, (zeroValue 39).run Try.prog w = .ok (.agg #[.int .i64 0, .slice none 0 0, .int .i64 0, .slice none 0 0]) w := fun _ => by kernel_rfl
  have hlen : xs.length = n * 4 := by
    rw [hxs]
    have : (Value.agg #[.int .i64 0, .slice none 0 0, .int .i64 0, .slice none 0 0]).cells = #[.int .i64 0, .slice none 0 0, .int .i64 0, .slice none 0 0] := by rfl
    rw [this]
    simp [Builtin.zeroCells]
  have hone : ∀ v ∈ xs, v.oneCell' = true := fun v hv => by
    rw [hxs] at hv
    have e : (Value.agg #[.int .i64 0, .slice none 0 0, .int .i64 0, .slice none 0 0]).cells = #[.int .i64 0, .slice none 0 0, .int .i64 0, .slice none 0 0] := by rfl
    rw [e] at hv
    simp [Builtin.zeroCells] at hv
    obtain ⟨a, ha, rfl⟩ := hv
    have h4 : a % 4 < 4 := Nat.mod_lt _ (by decide)
    rcases (by omega : a % 4 = 0 ∨ a % 4 = 1 ∨ a % 4 = 2 ∨ a % 4 = 3) with h | h | h | h <;> rw [h] <;> rfl
  have hst := run_storeCells_cells (P := Try.prog) b o xs 0 w (by rw [hlen]; simpa using hc) (by rw [hlen]; simpa using hf) hone
  simp only [Nat.add_zero] at hst
  obtain ⟨m, rfl⟩ : ∃ m, n = m + 1 := ⟨n - 1, by omega⟩
  refine ⟨w.setCells b o xs, fun ty => by simp [Builtin.clear_, run_underlying Try.underlying28, hzv, ← hxs, hst], ?_⟩
  have hg : ∀ (vs : List Value) (o : Nat) (w : World), w.grownBy (w.setCells b o vs) (some b) := by
    intro vs
    induction vs with
    | nil => intro o w; exact ⟨rfl, rfl, rfl, Nat.le_refl _, fun _ _ _ => rfl⟩
    | cons v vs ih =>
      intro o w
      have h1 := grownBy_setCell' w b v
      have h2 := ih (o + 1) (w.setCell ⟨b, o, none⟩ v)
      have h0 : w.grownBy (w.setCell ⟨b, o, none⟩ v) (some b) := ⟨rfl, rfl, rfl, by simp [World.setCell], fun i hi hne => Below.heap_setCell w _ _ i (fun e => hne (by rw [e]))⟩
      exact ⟨h2.os.trans h0.os, h2.tape.trans h0.tape, h2.output.trans h0.output, Nat.le_trans h0.size h2.size, fun i hi hne => (h2.block i (Nat.lt_of_lt_of_le hi h0.size) hne).trans (h0.block i hi hne)⟩
  exact hg _ _ _
theorem set_at (Z : List RZ) (k : Nat) (hk : k < Z.length) (z : RZ) : ((((cellsR Z).set (k * 4) (.int .i64 z.2.t)).set (k * 4 + 1) (.slice z.1.D z.1.n z.1.c)).set (k * 4 + 2) (.int .i64 z.2.count)).set (k * 4 + 3) (.slice z.1.G z.1.gn z.1.gc) = cellsR (Z.set k z) := by
  have e1 : Z = Z.take k ++ Z[k] :: Z.drop (k + 1) := by rw [List.getElem_cons_drop, List.take_append_drop]
  have hl : (Z.take k).length = k := by rw [List.length_take]; omega
  have e2 : Z.set k z = Z.take k ++ z :: Z.drop (k + 1) := by
    conv => lhs; rw [e1]
    rw [List.set_append_right _ _ (by omega), hl, Nat.sub_self]; rfl
  have hl2 := cellsR_length (Z.take k)
  rw [hl] at hl2
  rw [e2]
  conv => lhs; rw [e1]
  rw [cellsR_app, cellsR_app, cellsR_cons, cellsR_cons, ← hl2]
  rw [List.set_append_right _ _ (Nat.le_refl _), List.set_append_right _ _ (by omega), List.set_append_right _ _ (by omega), List.set_append_right _ _ (by omega)]
  simp only [Nat.sub_self, Nat.add_sub_cancel_left]
  rfl
/-- A row of the list is stored anew. -/
theorem own_put {w : World} {B g n c k : Nat} {Z : List RZ} (h : w.ownsRow B 39 4 (.slice (some ⟨g, 0, none⟩) n c) n (cellsR Z)) (hk : k < Z.length) (z : RZ) :
    ((((w.setCell ⟨g, k * 4, none⟩ (.int .i64 z.2.t)).setCell ⟨g, k * 4 + 1, none⟩ (.slice z.1.D z.1.n z.1.c)).setCell ⟨g, k * 4 + 2, none⟩ (.int .i64 z.2.count)).setCell ⟨g, k * 4 + 3, none⟩ (.slice z.1.G z.1.gn z.1.gc)).ownsRow B 39 4 (.slice (some ⟨g, 0, none⟩) n c) n (cellsR (Z.set k z)) := by
  obtain ⟨o1, _⟩ := h.stored (k * 4) (.int .i64 z.2.t)
  obtain ⟨o2, _⟩ := o1.stored (k * 4 + 1) (.slice z.1.D z.1.n z.1.c)
  obtain ⟨o3, _⟩ := o2.stored (k * 4 + 2) (.int .i64 z.2.count)
  obtain ⟨o4, _⟩ := o3.stored (k * 4 + 3) (.slice z.1.G z.1.gn z.1.gc)
  rw [set_at Z k hk] at o4
  exact o4
def CompactPost (w0 : World) (Z : List RZ) (e : Ending) (w' : World) : Prop := ∃ A k c, e = .returned (.slice A k c) ∧ k = keysN (Z.map Prod.snd) ∧ Below w0.heap.size w0 w'
/-- Two rows that are looked at. -/
structure Two (g o p : Nat) (y z : RZ) (W : World) : Prop where
  y0 : W.cell? ⟨g, o, none⟩ = some (.int .i64 y.2.t)
  y1 : W.cell? ⟨g, o + 1, none⟩ = some (.slice y.1.D y.1.n y.1.c)
  y2 : W.cell? ⟨g, o + 2, none⟩ = some (.int .i64 y.2.count)
  y3 : W.cell? ⟨g, o + 3, none⟩ = some (.slice y.1.G y.1.gn y.1.gc)
  z0 : W.cell? ⟨g, p, none⟩ = some (.int .i64 z.2.t)
  z1 : W.cell? ⟨g, p + 1, none⟩ = some (.slice z.1.D z.1.n z.1.c)
  z2 : W.cell? ⟨g, p + 2, none⟩ = some (.int .i64 z.2.count)
  z3 : W.cell? ⟨g, p + 3, none⟩ = some (.slice z.1.G z.1.gn z.1.gc)
theorem Two.keep {g o p : Nat} {y z : RZ} {W W' : World} (h : Two g o p y z W) (hb : Below W.heap.size W W') : Two g o p y z W' :=
  ⟨cell_later hb h.y0, cell_later hb h.y1, cell_later hb h.y2, cell_later hb h.y3, cell_later hb h.z0, cell_later hb h.z1, cell_later hb h.z2, cell_later hb h.z3⟩
theorem own_two {w : World} {B g n c i j : Nat} {Z : List RZ} (h : w.ownsRow B 39 4 (.slice (some ⟨g, 0, none⟩) n c) n (cellsR Z)) (hi : i < Z.length) (hj : j < Z.length) : Two g (i * 4) (j * 4) Z[i] Z[j] w := by
  have hn : n = Z.length := by have := h.1; rw [cellsR_length] at this; omega
  have h' := h
  rw [hn] at h'
  obtain ⟨_, A, c', e, hr, _⟩ := own_sliceR h'
  cases e
  obtain ⟨b, off, e, p0, p1, p2, p3⟩ := row4 hr hi
  cases e
  obtain ⟨b, off, e, q0, q1, q2, q3⟩ := row4 hr hj
  cases e
  simp only [Nat.zero_add] at p0 p1 p2 p3 q0 q1 q2 q3
  exact ⟨p0, p1, p2, p3, q0, q1, q2, q3⟩
/-- What the second loop keeps. -/
structure Cp (w0 : World) (g n cap k0 : Nat) (Z : List RZ) (k j : Nat) (W : World) : Prop where
  bel : Below w0.heap.size w0 W
  row : ∃ Y, Y.length = n ∧ W.ownsRow w0.heap.size 39 4 (.slice (some ⟨g, 0, none⟩) n cap) n (cellsR Y) ∧ ∀ i, j ≤ i + 1 → Y[i]? = Z[i]?
  len : k = keysN ((Z.take j).map Prod.snd)
  lt : k + 1 ≤ j
  le : j ≤ n
theorem Cp.skip {w0 W W' : World} {g n cap k0 k j : Nat} {Z : List RZ} (h : Cp w0 g n cap k0 Z k j W) (hs : SortedF sF Z) (h1 : 1 ≤ j) (hj : j < Z.length) (hn : n = Z.length) (he : cmpV Z[j].2 (Z[j - 1]'(by omega)).2 = 0) (hb : Below W.heap.size W W') : Cp w0 g n cap k0 Z k (j + 1) W' := by
  obtain ⟨Y, y1, y2, y3⟩ := h.row
  exact ⟨h.bel.trans (hb.mono h.bel.size), ⟨Y, y1, own_below y2 hb, fun i hi => y3 i (by omega)⟩, by rw [keys_step hs h1 hj, if_pos he]; exact h.len, by have := h.lt; omega, by omega⟩
theorem Cp.keep {w0 W W' : World} {g n cap k0 k j : Nat} {Z : List RZ} (h : Cp w0 g n cap k0 Z k j W) (hs : SortedF sF Z) (h1 : 1 ≤ j) (hj : j < Z.length) (hn : n = Z.length) (he : cmpV Z[j].2 (Z[j - 1]'(by omega)).2 ≠ 0) (hb : Below W.heap.size W W') (hg : w0.heap.size ≤ g) (z : RZ) :
    Cp w0 g n cap k0 Z (k + 1) (j + 1) ((((W'.setCell ⟨g, k * 4, none⟩ (.int .i64 z.2.t)).setCell ⟨g, k * 4 + 1, none⟩ (.slice z.1.D z.1.n z.1.c)).setCell ⟨g, k * 4 + 2, none⟩ (.int .i64 z.2.count)).setCell ⟨g, k * 4 + 3, none⟩ (.slice z.1.G z.1.gn z.1.gc)) := by
  obtain ⟨Y, y1, y2, y3⟩ := h.row
  have hlt := h.lt
  have hb' := h.bel.trans (hb.mono h.bel.size)
  refine ⟨bset (bset (bset (bset hb' hg _) hg _) hg _) hg _, ⟨Y.set k z, by rw [List.length_set]; exact y1, own_put (own_below y2 hb) (by omega) z, fun i hi => ?_⟩, by rw [keys_step hs h1 hj, if_neg he, ← h.len], by omega, by omega⟩
  rw [List.getElem?_set_ne (by omega)]
  exact y3 i (by omega)
theorem Cp.two {w0 W : World} {g n cap k0 k j : Nat} {Z : List RZ} (h : Cp w0 g n cap k0 Z k j W) (h1 : 1 ≤ j) (hj : j < Z.length) (hn : n = Z.length) : Two g (j * 4) ((j - 1) * 4) Z[j] (Z[j - 1]'(by omega)) W := by
  obtain ⟨Y, y1, y2, y3⟩ := h.row
  have e1 := y3 j (by omega)
  have e2 := y3 (j - 1) (by omega)
  rw [List.getElem?_eq_getElem (by omega), List.getElem?_eq_getElem (by omega)] at e1 e2
  have t := own_two y2 (i := j) (j := j - 1) (by omega) (by omega)
  rw [Option.some.inj e1, Option.some.inj e2] at t
  exact t
/-- The place that is stored to. -/
theorem Cp.at_ {w0 W : World} {g n cap k0 k j : Nat} {Z : List RZ} (h : Cp w0 g n cap k0 Z k j W) : ∃ x0 x1 x2 x3, W.cell? ⟨g, k * 4, none⟩ = some x0 ∧ W.cell? ⟨g, k * 4 + 1, none⟩ = some x1 ∧ W.cell? ⟨g, k * 4 + 2, none⟩ = some x2 ∧ W.cell? ⟨g, k * 4 + 3, none⟩ = some x3 ∧ ∀ i, W.frozen? ⟨g, i, none⟩ = false := by
  obtain ⟨Y, y1, y2, y3⟩ := h.row
  have h1 := h.lt
  have h2 := h.le
  have t := own_two y2 (i := k) (j := k) (by omega) (by omega)
  exact ⟨_, _, _, _, t.y0, t.y1, t.y2, t.y3, fun i => World.ownsRow.frozenAt y2 i⟩
theorem Cp.clear {w0 W : World} {g n cap k0 k j : Nat} {Z : List RZ} (h : Cp w0 g n cap k0 Z k j W) (hk : k < n) (c : Nat) : ∃ w', (∀ ty, (Builtin.clear_ #[28] ty #[.slice (some ⟨g, k * 4, none⟩) (n - k) c]).run Try.prog W = .ok (.tuple #[]) w') ∧ W.grownBy w' (some g) := by
  obtain ⟨Y, y1, y2, y3⟩ := h.row
  refine run_clear_rows W g (k * 4) (n - k) c (by omega) (fun i hi => ?_) (fun i _ => World.ownsRow.frozenAt y2 _)
  have y2' := y2
  rw [← y1] at y2'
  obtain ⟨_, A, c', e, hr, _⟩ := own_sliceR y2'
  cases e
  rcases hr with h0 | ⟨b, off, e, hc⟩
  · have := cellsR_length Y; rw [h0] at this; simp at this; omega
  · cases e
    have hlt : k * 4 + i < (cellsR Y).length := by rw [cellsR_length]; omega
    have := hc (k * 4 + i) _ (List.getElem?_eq_getElem hlt)
    rw [Nat.zero_add] at this
    rw [this]; rfl
set_option maxRecDepth 100000 in
set_option maxHeartbeats 16000000 in
theorem compact_any (g n cap : Nat) (Z : List RZ) (w0 w : World) (ho : w.ownsRow w0.heap.size 39 4 (.slice (some ⟨g, 0, none⟩) n cap) n (cellsR Z)) (hb : Below w0.heap.size w0 w) (hg : ∀ z ∈ Z, Good w0 z) (hs : SortedF sF Z) (hn : n ≤ 1000000) :
    Calls Try.prog 24 #[.slice (some ⟨g, 0, none⟩) n cap, .func (.func 22) #[] #[]] w (CompactPost w0 Z) := by
  have hnl : n = Z.length := by have := ho.1; rw [cellsR_length] at this; omega
  have hcap : n ≤ cap := by
    have h' := ho
    rw [hnl] at h'
    obtain ⟨_, A, c', e, _, h, _⟩ := own_sliceR h'
    cases e; omega
  have HO := Lib.hid ho
  have HB := Lib.hid hb
  have HG := Lib.hid hg
  have HS := Lib.hid hs
  have HNL := Lib.hid hnl
  clear ho hb hg hs hnl
  by_cases h2 : n < 2
  · have hlt : (n : Int) < 2 := by omega
    have hE : n = keysN (Z.map Prod.snd) := by
      rcases (by omega : n = 0 ∨ n = 1) with e | e
      · have : Z = [] := List.length_eq_zero_iff.1 (by rw [← HNL.out]; exact e)
        rw [this, e]; rfl
      · have h1 := keys_one (Z := Z) (by rw [← HNL.out]; omega)
        rw [List.take_of_length_le (by rw [← HNL.out]; omega)] at h1
        omega
    have HE := Lib.hid hE
    clear hE h2
    go_enter Try.func24, Try.ntmps24
    go_wp2
    go_ret
    exact ⟨_, n, _, rfl, HE.out, HB.out⟩
  have hge : ¬ (n : Int) < 2 := by omega
  have hn2 : 2 ≤ n := by omega
  clear h2
  go_enter Try.func24, Try.ntmps24
  go_upto_region 4 with fail
  go_loopw [5] (fun v5 wr => ∃ k : Nat, v5 = .int .i64 k ∧ 1 ≤ k ∧ k ≤ n ∧ Hid (Below w0.heap.size w0 wr) ∧ Hid (wr.ownsRow w0.heap.size 39 4 (.slice (some ⟨g, 0, none⟩) n cap) n (cellsR Z)) ∧ Hid (keysN ((Z.take k).map Prod.snd) = k)) (fun v5 _ => n - (intOf v5).toNat)
  case atStart => exact ⟨1, rfl, Nat.le_refl _, by omega, HB, HO, Lib.hid (keys_one (by have := HNL.out; omega))⟩
  case round =>
    obtain ⟨k, rfl, hk1, hkn, HBR, HOR, HKR⟩ := hrel
    obtain ⟨wo, rfl⟩ : ∃ wo : World, wo = wr := ⟨_, rfl⟩
    clear HB HO
    by_cases hlt : k < n
    case neg =>
      have hki : ¬ ((k : Int) < (n : Int)) := by omega
      have HE := Lib.hid (show n = keysN (Z.map Prod.snd) by
        have h1 := HKR.out
        rw [List.take_of_length_le (by have := HNL.out; omega)] at h1
        omega)
      clear hlt
      go_wp2
      go_ret
      exact ⟨_, n, _, rfl, HE.out, HBR.out⟩
    case pos =>
    obtain ⟨q, rfl⟩ : ∃ q, k = q + 1 := ⟨k - 1, by omega⟩
    have hkz0 : (0 : Int) ≤ (q : Int) + 1 := by omega
    have hkz1 : (q : Int) + 1 < (n : Int) := by omega
    have hkz4 : ((q + 1 : Nat) : Int) < (n : Int) := by omega
    have hkz3 : (q : Int) < (n : Int) := by omega
    have hkw : IntKind.i64.wrap (q : Int) = (q : Int) := IntWalk.i64_in _ (by omega)
    have hkZ : q + 1 < Z.length := by have := HNL.out; omega
    obtain ⟨y, hy⟩ : ∃ y, y = Z[q + 1] := ⟨_, rfl⟩
    obtain ⟨z, hz⟩ : ∃ z, z = Z[q]'(by omega) := ⟨_, rfl⟩
    have HST := Lib.hid (show keysN ((Z.take (q + 1 + 1)).map Prod.snd) = if cmpV y.2 z.2 = 0 then keysN ((Z.take (q + 1)).map Prod.snd) else keysN ((Z.take (q + 1)).map Prod.snd) + 1 by rw [hy, hz]; exact keys_step HS.out hk1 hkZ)
    have hTW : Two g ((q + 1) * 4) (q * 4) y z wo := by rw [hy, hz]; exact own_two HOR.out hkZ (by omega)
    have HEQ := Lib.hid (fun (W : World) (hW : Below wo.heap.size wo W) => eq_any y z W ((show Good wo y from (by rw [hy]; exact (HG.out _ (List.getElem_mem _)).keep HBR.out)).keep hW) ((show Good wo z from (by rw [hz]; exact (HG.out _ (List.getElem_mem _)).keep HBR.out)).keep hW))
    obtain ⟨r, hr⟩ : ∃ r, r = decide (cmpV y.2 z.2 = 0) := ⟨_, rfl⟩
    have HEQ := Lib.hid (show ∀ W, Below wo.heap.size wo W → Calls Try.prog 22 #[.agg (encR y).toArray, .agg (encR z).toArray] W fun e w' => e = .returned (.bool r) ∧ Below W.heap.size W w' from fun W hW => by rw [hr]; exact HEQ.out W hW)
    have HR := Lib.hid hr
    clear hy hz hr hlt
    go_upto_region 6 with fail
    refine wp_region_held_drew (S := Two g ((q + 1) * 4) (q * 4) y z) (by kernel_rfl) (hTW.keep (below_drewN (Below.refl _ _) 1)) ?_
    intro hHeld
    refine take_want (i := 0) (v := ?va0) rfl (by kernel_rfl) (by kernel_rfl) (by kernel_rfl) (fun _ _ _ h => h) (by rfl) ?ya0 (by assumption) ?ra0
    case ya0 => (intro w hSw; obtain ⟨y0, y1, y2, y3, z0, z1, z2, z3⟩ := hSw; go_simp; all_goals with_reducible rfl)
    (try simp only [Act.put, List.setIfInBounds_toArray, List.set_cons_zero, List.set_cons_succ])
    refine take_want (i := 1) (v := ?va1) rfl (by kernel_rfl) (by kernel_rfl) (by kernel_rfl) (fun _ _ _ h => h) (by rfl) ?ya1 (by assumption) ?ra1
    case ya1 => (intro w hSw; obtain ⟨y0, y1, y2, y3, z0, z1, z2, z3⟩ := hSw; go_simp; all_goals with_reducible rfl)
    (try simp only [Act.put, List.setIfInBounds_toArray, List.set_cons_zero, List.set_cons_succ])
    refine take_want (i := 2) (v := ?va2) rfl (by kernel_rfl) (by kernel_rfl) (by kernel_rfl) (fun _ _ _ h => h) (by rfl) ?ya2 (by assumption) ?ra2
    case ya2 => (intro w hSw; obtain ⟨y0, y1, y2, y3, z0, z1, z2, z3⟩ := hSw; go_simp; all_goals with_reducible rfl)
    (try simp only [Act.put, List.setIfInBounds_toArray, List.set_cons_zero, List.set_cons_succ])
    refine take_want (i := 3) (v := ?va3) rfl (by kernel_rfl) (by kernel_rfl) (by kernel_rfl) (fun _ _ _ h => h) (by rfl) ?ya3 (by assumption) ?ra3
    case ya3 => (intro w hSw; obtain ⟨y0, y1, y2, y3, z0, z1, z2, z3⟩ := hSw; go_simp; all_goals with_reducible rfl)
    (try simp only [Act.put, List.setIfInBounds_toArray, List.set_cons_zero, List.set_cons_succ])
    refine take_want (i := 4) (v := ?va4) rfl (by kernel_rfl) (by kernel_rfl) (by kernel_rfl) (fun _ _ _ h => h) (by rfl) ?ya4 (by assumption) ?ra4
    case ya4 => (intro w hSw; obtain ⟨y0, y1, y2, y3, z0, z1, z2, z3⟩ := hSw; go_simp; all_goals with_reducible rfl)
    (try simp only [Act.put, List.setIfInBounds_toArray, List.set_cons_zero, List.set_cons_succ])
    refine take_want (i := 5) (v := ?va5) rfl (by kernel_rfl) (by kernel_rfl) (by kernel_rfl) (fun _ _ _ h => h) (by rfl) ?ya5 (by assumption) ?ra5
    case ya5 => (intro w hSw; obtain ⟨y0, y1, y2, y3, z0, z1, z2, z3⟩ := hSw; go_simp; all_goals with_reducible rfl)
    (try simp only [Act.put, List.setIfInBounds_toArray, List.set_cons_zero, List.set_cons_succ])
    refine take_want (i := 6) (v := ?va6) rfl (by kernel_rfl) (by kernel_rfl) (by kernel_rfl) (fun _ _ _ h => h) (by rfl) ?ya6 (by assumption) ?ra6
    case ya6 => (intro w hSw; obtain ⟨y0, y1, y2, y3, z0, z1, z2, z3⟩ := hSw; go_simp; all_goals with_reducible rfl)
    (try simp only [Act.put, List.setIfInBounds_toArray, List.set_cons_zero, List.set_cons_succ])
    refine take_want (i := 7) (v := ?va7) rfl (by kernel_rfl) (by kernel_rfl) (by kernel_rfl) (fun _ _ _ h => h) (by rfl) ?ya7 (by assumption) ?ra7
    case ya7 => (intro w hSw; obtain ⟨y0, y1, y2, y3, z0, z1, z2, z3⟩ := hSw; go_simp; all_goals with_reducible rfl)
    (try simp only [Act.put, List.setIfInBounds_toArray, List.set_cons_zero, List.set_cons_succ])
    refine take_want (i := 8) (v := ?va8) rfl (by kernel_rfl) (by kernel_rfl) (by kernel_rfl) (fun _ _ _ h => h) (by rfl) ?ya8 (by assumption) ?ra8
    case ya8 => (intro w hSw; obtain ⟨y0, y1, y2, y3, z0, z1, z2, z3⟩ := hSw; go_simp; all_goals with_reducible rfl)
    (try simp only [Act.put, List.setIfInBounds_toArray, List.set_cons_zero, List.set_cons_succ])
    refine take_want (i := 9) (v := ?va9) rfl (by kernel_rfl) (by kernel_rfl) (by kernel_rfl) (fun _ _ _ h => h) (by rfl) ?ya9 (by assumption) ?ra9
    case ya9 => (intro w hSw; obtain ⟨y0, y1, y2, y3, z0, z1, z2, z3⟩ := hSw; go_simp; all_goals with_reducible rfl)
    (try simp only [Act.put, List.setIfInBounds_toArray, List.set_cons_zero, List.set_cons_succ])
    refine wpAnyH_ready (rs := [10]) (by kernel_rfl) (by simp) ?_
    refine AllReadyH.cons rfl (fun K hK => ?_) AllReadyH.nil
    go_simp
    (go_at_call 22; refine (HEQ.out _ (below_drewN (Below.refl _ _) 1)).mono ?_; rintro e w2 ⟨rfl, hb⟩)
    refine hK.out _ _ (hHeld.keep hb) (fun hHeld => ?_)
    clear hK K
    (try simp only [Act.put, List.setIfInBounds_toArray, List.set_cons_zero, List.set_cons_succ])
    have hb2 : Below wo.heap.size wo w2 := (below_drewN (Below.refl _ _) 1).trans (hb.mono (Nat.le_refl _))
    have HBR := Lib.hid (HBR.out.trans (hb2.mono HBR.out.size))
    have HOR := Lib.hid (own_below HOR.out hb2)
    clear hb hb2 hHeld HEQ hTW
    refine wpAnyH_done (by kernel_rfl) ?_ _
    cases r with
    | false =>
      have HKR2 := Lib.hid (show keysN ((Z.take (q + 1 + 1)).map Prod.snd) = q + 1 + 1 by rw [HST.out, if_neg (by simpa using HR.out), HKR.out])
      go_wp2_with fail
      go_roundw
      case rel => exact ⟨q + 1 + 1, by go_num, by omega, by omega, HBR, HOR, HKR2⟩
      case measure => simp [intOf]; omega
    | true =>
      have HK0 := Lib.hid (show q + 1 = keysN ((Z.take (q + 1 + 1)).map Prod.snd) by rw [HST.out, if_pos (by simpa using HR.out), HKR.out])
      have hgB : w0.heap.size ≤ g := by
        rcases HOR.out.2 with ⟨e, _⟩ | ⟨g', cap', cur, e, h, _⟩
        · cases e
        · cases e; exact h
      have back : ∀ (k : Nat), k < n → ∀ W, Sem.run Try.prog (Instr.slice 28 (.slice (some ⟨g, 0, none⟩) n cap) (some (.int .i64 (k : Int))) none none) W = .ok (.slice (some ⟨g, k * 4, none⟩) (n - k) (cap - k)) W := fun k hk W => by
        rw [slice_back (some ⟨g, 0, none⟩) n cap k (by omega) hcap W]
        have e : backA (some ⟨g, 0, none⟩) cap k = some ⟨g, k * 4, none⟩ := by
          show some (if cap = k then (⟨g, 0, none⟩ : Addr) else (⟨g, 0, none⟩ : Addr).add (k * 4)) = _
          rw [if_neg (by omega)]
          unfold Addr.add
          by_cases h0 : k * 4 = 0
          · rw [if_pos h0, h0]
          · rw [if_neg h0]; simp
        rw [e]
      have HBK := Lib.hid back
      have sl := back (q + 1) (by omega)
      simp only [Int.natCast_add, Int.cast_ofNat_Int] at sl
      obtain ⟨n2, hn2e⟩ : ∃ n2, n2 = n - (q + 1) := ⟨_, rfl⟩
      rw [← hn2e] at sl
      have HN2 := Lib.hid (show n = n2 + (q + 1) by omega)
      clear back hn2e
      go_upto_region 8 with fail
      go_upto_region 9 with fail
      go_loopw [5, 7] (fun v5 v7 wr => ∃ k p : Nat, v5 = .int .i64 k ∧ v7 = .int .i64 p ∧ 1 ≤ p ∧ p ≤ n2 ∧ Hid (Cp w0 g n cap (q + 1) Z k (q + 1 + p) wr)) (fun _ v7 _ => n - (intOf v7).toNat)
      case atStart => exact ⟨q + 1, 1, by go_num, rfl, Nat.le_refl _, by have := HN2.out; omega, Lib.hid ⟨HBR.out, ⟨Z, HNL.out.symm, HOR.out, fun _ _ => rfl⟩, HK0.out, by omega, by omega⟩⟩
      case round =>
        obtain ⟨k, p, rfl, rfl, hp1, hpn, HCP⟩ := hrel
        obtain ⟨wi, rfl⟩ : ∃ wi : World, wi = wr := ⟨_, rfl⟩
        clear HBR HOR sl
        by_cases hlt : p < n2
        case neg =>
          have hki : ¬ ((p : Int) < (n2 : Int)) := by omega
          have hkn2 : k < n := by have := HCP.out.lt; have := HCP.out.le; omega
          obtain ⟨wc, hcl, hgc⟩ := HCP.out.clear hkn2 (cap - k)
          have sl2 := HBK.out k hkn2
          have sl3 := fun W => slice_front (some ⟨g, 0, none⟩) n cap k (by omega) hcap W
          have HE := Lib.hid (show k = keysN (Z.map Prod.snd) by
            have h1 := HCP.out.len
            rw [List.take_of_length_le (by have := HNL.out; have := HN2.out; omega)] at h1
            exact h1)
          have HBC := Lib.hid (show Below w0.heap.size w0 wc from HCP.out.bel.grown hgc HCP.out.bel.size (fun i e => by cases e; exact hgB))
          clear hgc hlt
          go_wp2
          go_ret
          exact ⟨_, k, _, rfl, HE.out, HBC.out⟩
        case pos =>
        obtain ⟨m, rfl⟩ : ∃ m, p = m + 1 := ⟨p - 1, by omega⟩
        have hjZ : q + 1 + (m + 1) < Z.length := by have := HNL.out; have := HN2.out; omega
        have hm0 : (0 : Int) ≤ (m : Int) + 1 := by omega
        have hm9 : m ≤ 1000000 := by have := HN2.out; omega
        have hm1 : (m : Int) + 1 < (n2 : Int) := by omega
        have hm2 : (m : Int) < (n2 : Int) := by omega
        have hm3 : ((m + 1 : Nat) : Int) < (n2 : Int) := by omega
        have hmw : IntKind.i64.wrap (m : Int) = (m : Int) := IntWalk.i64_in _ (by have := HN2.out; omega)
        obtain ⟨y, hy⟩ : ∃ y, y = Z[q + 1 + (m + 1)] := ⟨_, rfl⟩
        obtain ⟨z, hz⟩ : ∃ z, z = Z[q + 1 + (m + 1) - 1]'(by omega) := ⟨_, rfl⟩
        have hTW : Two g ((q + 1) * 4 + (m + 1) * 4) ((q + 1) * 4 + m * 4) y z wi := by
          have t := HCP.out.two (by omega) hjZ HNL.out
          rw [← hy, ← hz] at t
          rw [show (q + 1) * 4 + (m + 1) * 4 = (q + 1 + (m + 1)) * 4 by omega, show (q + 1) * 4 + m * 4 = (q + 1 + (m + 1) - 1) * 4 by omega]
          exact t
        have HYZ := Lib.hid (And.intro hy hz)
        have HEQ := Lib.hid (fun (W : World) (hW : Below wi.heap.size wi W) => eq_any y z W ((show Good wi y from (by rw [hy]; exact (HG.out _ (List.getElem_mem _)).keep HCP.out.bel)).keep hW) ((show Good wi z from (by rw [hz]; exact (HG.out _ (List.getElem_mem _)).keep HCP.out.bel)).keep hW))
        obtain ⟨r, hr⟩ : ∃ r, r = decide (cmpV y.2 z.2 = 0) := ⟨_, rfl⟩
        have HEQ := Lib.hid (show ∀ W, Below wi.heap.size wi W → Calls Try.prog 22 #[.agg (encR y).toArray, .agg (encR z).toArray] W fun e w' => e = .returned (.bool r) ∧ Below W.heap.size W w' from fun W hW => by rw [hr]; exact HEQ.out W hW)
        have HR2 := Lib.hid hr
        clear hy hz hr hlt
        go_upto_region 11 with fail
        refine wp_region_held_drew (S := Two g ((q + 1) * 4 + (m + 1) * 4) ((q + 1) * 4 + m * 4) y z) (by kernel_rfl) (hTW.keep (below_drewN (Below.refl _ _) 1)) ?_
        intro hHeld
        refine take_want (i := 0) (v := ?vb0) rfl (by kernel_rfl) (by kernel_rfl) (by kernel_rfl) (fun _ _ _ h => h) (by rfl) ?yb0 (by assumption) ?rb0
        case yb0 => (intro w hSw; obtain ⟨y0, y1, y2, y3, z0, z1, z2, z3⟩ := hSw; go_simp; all_goals with_reducible rfl)
        (try simp only [Act.put, List.setIfInBounds_toArray, List.set_cons_zero, List.set_cons_succ])
        refine take_want (i := 1) (v := ?vb1) rfl (by kernel_rfl) (by kernel_rfl) (by kernel_rfl) (fun _ _ _ h => h) (by rfl) ?yb1 (by assumption) ?rb1
        case yb1 => (intro w hSw; obtain ⟨y0, y1, y2, y3, z0, z1, z2, z3⟩ := hSw; go_simp; all_goals with_reducible rfl)
        (try simp only [Act.put, List.setIfInBounds_toArray, List.set_cons_zero, List.set_cons_succ])
        refine take_want (i := 2) (v := ?vb2) rfl (by kernel_rfl) (by kernel_rfl) (by kernel_rfl) (fun _ _ _ h => h) (by rfl) ?yb2 (by assumption) ?rb2
        case yb2 => (intro w hSw; obtain ⟨y0, y1, y2, y3, z0, z1, z2, z3⟩ := hSw; go_simp; all_goals with_reducible rfl)
        (try simp only [Act.put, List.setIfInBounds_toArray, List.set_cons_zero, List.set_cons_succ])
        refine take_want (i := 3) (v := ?vb3) rfl (by kernel_rfl) (by kernel_rfl) (by kernel_rfl) (fun _ _ _ h => h) (by rfl) ?yb3 (by assumption) ?rb3
        case yb3 => (intro w hSw; obtain ⟨y0, y1, y2, y3, z0, z1, z2, z3⟩ := hSw; go_simp; all_goals with_reducible rfl)
        (try simp only [Act.put, List.setIfInBounds_toArray, List.set_cons_zero, List.set_cons_succ])
        refine take_want (i := 4) (v := ?vb4) rfl (by kernel_rfl) (by kernel_rfl) (by kernel_rfl) (fun _ _ _ h => h) (by rfl) ?yb4 (by assumption) ?rb4
        case yb4 => (intro w hSw; obtain ⟨y0, y1, y2, y3, z0, z1, z2, z3⟩ := hSw; go_simp; all_goals with_reducible rfl)
        (try simp only [Act.put, List.setIfInBounds_toArray, List.set_cons_zero, List.set_cons_succ])
        refine take_want (i := 5) (v := ?vb5) rfl (by kernel_rfl) (by kernel_rfl) (by kernel_rfl) (fun _ _ _ h => h) (by rfl) ?yb5 (by assumption) ?rb5
        case yb5 => (intro w hSw; obtain ⟨y0, y1, y2, y3, z0, z1, z2, z3⟩ := hSw; go_simp; all_goals with_reducible rfl)
        (try simp only [Act.put, List.setIfInBounds_toArray, List.set_cons_zero, List.set_cons_succ])
        refine take_want (i := 6) (v := ?vb6) rfl (by kernel_rfl) (by kernel_rfl) (by kernel_rfl) (fun _ _ _ h => h) (by rfl) ?yb6 (by assumption) ?rb6
        case yb6 => (intro w hSw; obtain ⟨y0, y1, y2, y3, z0, z1, z2, z3⟩ := hSw; go_simp; all_goals with_reducible rfl)
        (try simp only [Act.put, List.setIfInBounds_toArray, List.set_cons_zero, List.set_cons_succ])
        refine take_want (i := 7) (v := ?vb7) rfl (by kernel_rfl) (by kernel_rfl) (by kernel_rfl) (fun _ _ _ h => h) (by rfl) ?yb7 (by assumption) ?rb7
        case yb7 => (intro w hSw; obtain ⟨y0, y1, y2, y3, z0, z1, z2, z3⟩ := hSw; go_simp; all_goals with_reducible rfl)
        (try simp only [Act.put, List.setIfInBounds_toArray, List.set_cons_zero, List.set_cons_succ])
        refine take_want (i := 8) (v := ?vb8) rfl (by kernel_rfl) (by kernel_rfl) (by kernel_rfl) (fun _ _ _ h => h) (by rfl) ?yb8 (by assumption) ?rb8
        case yb8 => (intro w hSw; obtain ⟨y0, y1, y2, y3, z0, z1, z2, z3⟩ := hSw; go_simp; all_goals with_reducible rfl)
        (try simp only [Act.put, List.setIfInBounds_toArray, List.set_cons_zero, List.set_cons_succ])
        refine take_want (i := 9) (v := ?vb9) rfl (by kernel_rfl) (by kernel_rfl) (by kernel_rfl) (fun _ _ _ h => h) (by rfl) ?yb9 (by assumption) ?rb9
        case yb9 => (intro w hSw; obtain ⟨y0, y1, y2, y3, z0, z1, z2, z3⟩ := hSw; go_simp; all_goals with_reducible rfl)
        (try simp only [Act.put, List.setIfInBounds_toArray, List.set_cons_zero, List.set_cons_succ])
        refine wpAnyH_ready (rs := [10]) (by kernel_rfl) (by simp) ?_
        refine AllReadyH.cons rfl (fun K hK => ?_) AllReadyH.nil
        go_simp
        (go_at_call 22; refine (HEQ.out _ (below_drewN (Below.refl _ _) 1)).mono ?_; rintro e w2 ⟨rfl, hb⟩)
        refine hK.out _ _ (hHeld.keep hb) (fun hHeld => ?_)
        clear hK K
        (try simp only [Act.put, List.setIfInBounds_toArray, List.set_cons_zero, List.set_cons_succ])
        have HB2 := Lib.hid (show Below wi.heap.size wi w2 from (below_drewN (Below.refl _ _) 1).trans (hb.mono (Nat.le_refl _)))
        clear hb HEQ hTW
        refine take_want (i := 11) (v := ?vc11) rfl (by kernel_rfl) (by kernel_rfl) (by kernel_rfl) (fun _ _ _ h => h) (by rfl) ?yc11 (by assumption) ?rc11
        case yc11 => (intro w hSw; go_simp; all_goals with_reducible rfl)
        (try simp only [Act.put, List.setIfInBounds_toArray, List.set_cons_zero, List.set_cons_succ])
        have HTW := Lib.hid hHeld
        clear hHeld
        refine wpAnyH_done (by kernel_rfl) ?_ _
        cases r with
        | true =>
          have hcm : cmpV Z[q + 1 + (m + 1)].2 (Z[q + 1 + (m + 1) - 1]'(by omega)).2 = 0 := by
            obtain ⟨h1, h2⟩ := HYZ.out
            rw [← h1, ← h2]; simpa using HR2.out
          have HCN := Lib.hid (HCP.out.skip HS.out (by omega) hjZ HNL.out hcm HB2.out)
          clear hcm
          go_wp2_with fail
          go_roundw
          case rel => exact ⟨k, m + 1 + 1, rfl, by go_num, by omega, by omega, HCN⟩
          case measure => have := HN2.out; simp [intOf]; omega
        | false =>
          have hcm : cmpV Z[q + 1 + (m + 1)].2 (Z[q + 1 + (m + 1) - 1]'(by omega)).2 ≠ 0 := by
            obtain ⟨h1, h2⟩ := HYZ.out
            rw [← h1, ← h2]; simpa using HR2.out
          have HCN := Lib.hid (HCP.out.keep HS.out (by omega) hjZ HNL.out hcm HB2.out hgB y)
          have hcp2 : Cp w0 g n cap (q + 1) Z k (q + 1 + (m + 1)) w2 := by
            obtain ⟨Y, y1, y2, y3⟩ := HCP.out.row
            exact ⟨HCP.out.bel.trans (HB2.out.mono HCP.out.bel.size), ⟨Y, y1, own_below y2 HB2.out, y3⟩, HCP.out.len, HCP.out.lt, HCP.out.le⟩
          obtain ⟨x0, x1, x2, x3, p0, p1, p2, p3, pf⟩ := hcp2.at_
          have f0 := pf (k * 4)
          have f1 := pf (k * 4 + 1)
          have f2 := pf (k * 4 + 2)
          have f3 := pf (k * 4 + 3)
          obtain ⟨y0, y1, y2, y3, z0, z1, z2, z3⟩ := HTW.out
          have hk0 : (0 : Int) ≤ (k : Int) := by omega
          have hkn2 : (k : Int) < (n : Int) := by have := HCP.out.lt; have := HCP.out.le; omega
          have hk9 : k ≤ 1000000 := by omega
          clear hcm pf hcp2
          go_wp2_with fail
          go_roundw
          case rel => exact ⟨k + 1, m + 1 + 1, by go_num, by go_num, by omega, by omega, HCN⟩
          case measure => have := HN2.out; simp [intOf]; omega
end Go.Proofs.Ytbccjkjibffbkaa
