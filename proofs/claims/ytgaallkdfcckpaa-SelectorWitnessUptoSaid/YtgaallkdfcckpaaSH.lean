/- IndexFunc over plans (59), DeleteFunc (33), whatever closure. -/
import Derived.Test.YtgaallkdfcckpaaSG
import Derived.Lib.SliceRun
import Derived.Laws.IdiomCopy
namespace Go.Proofs.Ytgaallkdfcckpaa
open Go.RowKit Go.Maps Go.Lib Go.Shelf
set_option linter.unusedSimpArgs false
set_option linter.unusedVariables false
def IdxXPost (w : World) (st : XZ → Bool) (L : List XZ) (e : Ending) (w' : World) : Prop :=
  (∃ k : Nat, k ≤ L.length ∧ (∀ (j : Nat) (h : j < L.length), j < k → st L[j] = false) ∧ ∃ v : Int, e = .returned (.int .i64 v) ∧ ((∃ h : k < L.length, st L[k] = true ∧ v = (k : Int)) ∨ (k = L.length ∧ v = -1))) ∧ Below w.heap.size w w'
set_option maxRecDepth 100000 in
set_option maxHeartbeats 16000000 in
theorem idxX_any (A : Option Addr) (n c g : Nat) (lb : Array Value) (st : XZ → Bool) (L : List XZ) (w : World) (hA : Row w A (cellsX L)) (hz : n = L.length) (hn : n ≤ 9223372036854775807)
    (eg : ∀ args w, (callFunc g args).run Try.prog w = .ok (.enter g args) w)
    (hg : ∀ W, Below w.heap.size w W → ∀ x ∈ L, Calls Try.prog g (#[.agg #[.int .i64 x.frm, .int .i64 x.upto, .int .i64 x.tier, .int .i64 x.proj, .int .i64 x.rows]] ++ lb) W fun e W' => e = .returned (.bool (st x)) ∧ Below W.heap.size W W') :
    Calls Try.prog 59 #[.slice A n c, .func (.func g) #[] lb] w (IdxXPost w st L) := by
  have HA := Lib.hid hA
  have HZ := Lib.hid hz
  have HG := Lib.hid hg
  clear hA hz hg
  go_enter Try.func59, Try.ntmps59
  go_wp2_with fail
  go_loopw [8] (fun i wr => ∃ k : Nat, k ≤ n ∧ i = .int .i64 k ∧ Hid (∀ (j : Nat) (h : j < L.length), j < k → st L[j] = false) ∧ Hid (Below w.heap.size w wr)) (fun i _ => n - (intOf i).toNat)
  case atStart => exact ⟨0, Nat.zero_le _, rfl, Lib.hid (fun j _ h => by omega), Lib.hid (Below.refl _ _)⟩
  case round =>
    obtain ⟨k, hk, rfl, HK, HB⟩ := hrel
    by_cases hlt : k < n
    · have hkz : k < L.length := by have := HZ.out; omega
      have hki : (k : Int) < (n : Int) := by omega
      have hk0 : (0 : Int) ≤ (k : Int) := by omega
      obtain ⟨b, off, hAe, q0, q1, q2, q3, q4⟩ := x_cells (HA.out.keep (Nat.le_refl _) HB.out) hkz
      obtain ⟨x, hx⟩ : ∃ x, x = L[k] := ⟨_, rfl⟩
      rw [← hx] at q0 q1 q2 q3 q4
      have HX := Lib.hid hx
      have hxm : x ∈ L := by rw [hx]; exact List.getElem_mem _
      obtain ⟨q, hq⟩ : ∃ q : Bool, q = st x := ⟨_, rfl⟩
      have HC := Lib.hid (HG.out wr HB.out x hxm)
      rw [← hq] at HC
      have HQ := Lib.hid hq
      have HKZ := Lib.hid hkz
      clear hq hx hxm
      subst hAe
      cases q with
      | true =>
        clear hlt
        go_wp2_with (go_at_fn g; refine HC.out.mono ?_; rintro e w1 ⟨rfl, hB1⟩; have HB1 := Lib.hid (bthen HB.out hB1); clear hB1)
        go_ret
        exact ⟨⟨k, Nat.le_of_lt HKZ.out, HK.out, _, rfl, .inl ⟨HKZ.out, by rw [← HX.out]; exact HQ.out.symm, rfl⟩⟩, HB1.out⟩
      | false =>
        have HK2 := Lib.hid (show ∀ (j : Nat) (h : j < L.length), j < k + 1 → st L[j] = false from fun j h hj => by
          rcases Nat.lt_or_ge j k with e | e
          · exact HK.out j h e
          · obtain rfl : j = k := by omega
            rw [← HX.out]; exact HQ.out.symm)
        clear hlt
        go_wp2_with (go_at_fn g; refine HC.out.mono ?_; rintro e w1 ⟨rfl, hB1⟩; have HB1 := Lib.hid (bthen HB.out hB1); clear hB1)
        go_roundw
        case rel => exact ⟨k + 1, by omega, by go_num, HK2, HB1⟩
        case measure => simp [intOf]; omega
    · have hge : ¬ (k : Int) < (n : Int) := by omega
      have HE := Lib.hid (show k = L.length by have := HZ.out; omega)
      clear hlt
      go_wp2_with fail
      go_ret
      exact ⟨⟨k, Nat.le_of_eq HE.out, HK.out, _, rfl, .inr ⟨HE.out, rfl⟩⟩, HB.out⟩
theorem slice_front (A : Option Addr) (n c k : Nat) (hk : k ≤ n) (hn : n ≤ c) (W : World) : Sem.run Try.prog (Instr.slice 45 (.slice A n c) none (some (.int .i64 (k : Int))) none) W = .ok (.slice A k c) W := by
  have e : Try.prog.elem 45 = 49 := by kernel_rfl
  have hs : ∀ W, Sem.run Try.prog (Go.sizeOf (Try.prog.elem 45)) W = .ok 5 W := fun _ => by kernel_rfl
  rw [run_slice_h W 45 A n c (by rw [e]; exact Try.underlying45) .i64 k (by omega) (by omega), hs]
  simp only [Result.andThen, sliced, Int.toNat_natCast]
  cases A with
  | none => simp
  | some a =>
    have : a.add 0 = a := by unfold Addr.add; simp
    simp [this]
theorem slice_back (g : Nat) (n c r : Nat) (hr : r < n) (hn : n ≤ c) (W : World) : Sem.run Try.prog (Instr.slice 45 (.slice (some ⟨g, 0, none⟩) n c) (some (.int .i64 (r : Int))) none none) W = .ok (.slice (some ⟨g, r * 5, none⟩) (n - r) (c - r)) W := by
  have e : Try.prog.elem 45 = 49 := by kernel_rfl
  have hs : ∀ W, Sem.run Try.prog (Go.sizeOf (Try.prog.elem 45)) W = .ok 5 W := fun _ => by kernel_rfl
  rw [run_slice_l W 45 (some ⟨g, 0, none⟩) n c (by rw [e]; exact Try.underlying45) .i64 r (by omega) (by omega), hs]
  simp only [Result.andThen, sliced, Int.toNat_natCast]
  have : ¬ c = r := by omega
  simp only [if_neg this]
  unfold Addr.add
  by_cases h0 : r * 5 = 0
  · simp [h0]
  · simp [h0]
/-- The zero values that clear lays. -/
theorem run_clear_x (w : World) (b o n c : Nat) (hn : 0 < n) (hc : ∀ j, j < n * 5 → (w.cell? ⟨b, o + j, none⟩).isSome = true) (hf : ∀ j, j < n * 5 → w.frozen? ⟨b, o + j, none⟩ = false) :
    ∃ w', (∀ ty, (Builtin.clear_ #[45] ty #[.slice (some ⟨b, o, none⟩) n c]).run Try.prog w = .ok (.tuple #[]) w') ∧ w.grownBy w' (some b) ∧ (∀ j, j < o → w'.cell? ⟨b, j, none⟩ = w.cell? ⟨b, j, none⟩) := by
  obtain ⟨xs, hxs⟩ : ∃ xs, xs = (Builtin.zeroCells (Value.agg #[.int .i64 0, .int .i64 0, .int .i64 0, .int .i64 0, .int .i64 0]).cells n).toList := ⟨_, rfl⟩
  have hzv : ∀ w, (zeroValue 49).run Try.prog w = .ok (.agg #[.int .i64 0, .int .i64 0, .int .i64 0, .int .i64 0, .int .i64 0]) w := fun _ => by kernel_rfl
  have ecl : (Value.agg #[.int .i64 0, .int .i64 0, .int .i64 0, .int .i64 0, .int .i64 0]).cells = #[.int .i64 0, .int .i64 0, .int .i64 0, .int .i64 0, .int .i64 0] := by rfl
  have hlen : xs.length = n * 5 := by
    rw [hxs, ecl]
    simp [Builtin.zeroCells]
  have hone : ∀ v ∈ xs, v.oneCell' = true := fun v hv => by
    rw [hxs, ecl] at hv
    simp [Builtin.zeroCells] at hv
    obtain ⟨a, ha, rfl⟩ := hv
    have h4 : a % 5 < 5 := Nat.mod_lt _ (by decide)
    rcases (by omega : a % 5 = 0 ∨ a % 5 = 1 ∨ a % 5 = 2 ∨ a % 5 = 3 ∨ a % 5 = 4) with h | h | h | h | h <;> rw [h] <;> rfl
  have hst := run_storeCells_cells (P := Try.prog) b o xs 0 w (by rw [hlen]; simpa using hc) (by rw [hlen]; simpa using hf) hone
  simp only [Nat.add_zero] at hst
  obtain ⟨m, rfl⟩ : ∃ m, n = m + 1 := ⟨n - 1, by omega⟩
  refine ⟨w.setCells b o xs, fun ty => by simp [Builtin.clear_, run_underlying Try.underlying45, hzv, ← hxs, hst], ?_, fun j hj => World.cell?_setCells_out b xs o w ⟨b, j, none⟩ (fun _ _ => .inl hj)⟩
  have hg : ∀ (vs : List Value) (o : Nat) (w : World), w.grownBy (w.setCells b o vs) (some b) := by
    intro vs
    induction vs with
    | nil => intro o w; exact ⟨rfl, rfl, rfl, Nat.le_refl _, fun _ _ _ => rfl⟩
    | cons v vs ih =>
      intro o w
      have h2 := ih (o + 1) (w.setCell ⟨b, o, none⟩ v)
      have h0 : w.grownBy (w.setCell ⟨b, o, none⟩ v) (some b) := ⟨rfl, rfl, rfl, by simp [World.setCell], fun i hi hne => Below.heap_setCell w _ _ i (fun e => hne (by rw [e]))⟩
      exact ⟨h2.os.trans h0.os, h2.tape.trans h0.tape, h2.output.trans h0.output, Nat.le_trans h0.size h2.size, fun i hi hne => (h2.block i (Nat.lt_of_lt_of_le hi h0.size) hne).trans (h0.block i hi hne)⟩
  exact hg _ _ _
theorem set_at (Z : List XZ) (k : Nat) (hk : k < Z.length) (z : XZ) : (((((cellsX Z).set (k * 5) (.int .i64 z.frm)).set (k * 5 + 1) (.int .i64 z.upto)).set (k * 5 + 2) (.int .i64 z.tier)).set (k * 5 + 3) (.int .i64 z.proj)).set (k * 5 + 4) (.int .i64 z.rows) = cellsX (Z.set k z) := by
  have e1 : Z = Z.take k ++ Z[k] :: Z.drop (k + 1) := by rw [List.getElem_cons_drop, List.take_append_drop]
  have hl : (Z.take k).length = k := by rw [List.length_take]; omega
  have e2 : Z.set k z = Z.take k ++ z :: Z.drop (k + 1) := by
    conv => lhs; rw [e1]
    rw [List.set_append_right _ _ (by omega), hl, Nat.sub_self]; rfl
  have hl2 := cellsX_length (Z.take k)
  rw [hl] at hl2
  rw [e2]
  conv => lhs; rw [e1]
  rw [cellsX_app, cellsX_app, cellsX_cons, cellsX_cons, ← hl2]
  rw [List.set_append_right _ _ (Nat.le_refl _), List.set_append_right _ _ (by omega), List.set_append_right _ _ (by omega), List.set_append_right _ _ (by omega), List.set_append_right _ _ (by omega)]
  simp only [Nat.sub_self, Nat.add_sub_cancel_left]
  rfl
/-- A plan of the list is stored anew. -/
theorem own_put {w : World} {B g n c k : Nat} {Z : List XZ} (h : w.ownsRow B 49 5 (.slice (some ⟨g, 0, none⟩) n c) n (cellsX Z)) (hk : k < Z.length) (z : XZ) :
    (((((w.setCell ⟨g, k * 5, none⟩ (.int .i64 z.frm)).setCell ⟨g, k * 5 + 1, none⟩ (.int .i64 z.upto)).setCell ⟨g, k * 5 + 2, none⟩ (.int .i64 z.tier)).setCell ⟨g, k * 5 + 3, none⟩ (.int .i64 z.proj)).setCell ⟨g, k * 5 + 4, none⟩ (.int .i64 z.rows)).ownsRow B 49 5 (.slice (some ⟨g, 0, none⟩) n c) n (cellsX (Z.set k z)) := by
  obtain ⟨o1, _⟩ := h.stored (k * 5) (.int .i64 z.frm)
  obtain ⟨o2, _⟩ := o1.stored (k * 5 + 1) (.int .i64 z.upto)
  obtain ⟨o3, _⟩ := o2.stored (k * 5 + 2) (.int .i64 z.tier)
  obtain ⟨o4, _⟩ := o3.stored (k * 5 + 3) (.int .i64 z.proj)
  obtain ⟨o5, _⟩ := o4.stored (k * 5 + 4) (.int .i64 z.rows)
  rw [set_at Z k hk z] at o5
  exact o5
theorem own_cells {w : World} {B g n c k : Nat} {Z : List XZ} (h : w.ownsRow B 49 5 (.slice (some ⟨g, 0, none⟩) n c) n (cellsX Z)) (hk : k < Z.length) : w.cell? ⟨g, k * 5, none⟩ = some (.int .i64 Z[k].frm) ∧ w.cell? ⟨g, k * 5 + 1, none⟩ = some (.int .i64 Z[k].upto) ∧ w.cell? ⟨g, k * 5 + 2, none⟩ = some (.int .i64 Z[k].tier) ∧ w.cell? ⟨g, k * 5 + 3, none⟩ = some (.int .i64 Z[k].proj) ∧ w.cell? ⟨g, k * 5 + 4, none⟩ = some (.int .i64 Z[k].rows) := by
  have hn : n = Z.length := by have := h.1; rw [cellsX_length] at this; omega
  subst hn
  obtain ⟨A, c', e, hr, -⟩ := own_sliceX h
  cases e
  obtain ⟨b, off, e, p0, p1, p2, p3, p4⟩ := x_cells hr hk
  cases e
  simp only [Nat.zero_add] at p0 p1 p2 p3 p4
  exact ⟨p0, p1, p2, p3, p4⟩
/-- What the loop of DeleteFunc keeps. -/
structure Df (w0 : World) (g n cap : Nat) (L : List XZ) (st : XZ → Bool) (i j : Nat) (W : World) : Prop where
  bel : Below w0.heap.size w0 W
  row : ∃ M, M.length = n ∧ W.ownsRow w0.heap.size 49 5 (.slice (some ⟨g, 0, none⟩) n cap) n (cellsX M) ∧ M.take i = (L.take j).filter (fun x => !st x) ∧ ∀ k, j ≤ k → M[k]? = L[k]?
  lt : i < j
  le : j ≤ n
section
variable {w0 W W' : World} {g n cap i j : Nat} {L : List XZ} {st : XZ → Bool}
theorem Df.below (h : Df w0 g n cap L st i j W) (hb : Below W.heap.size W W') : Df w0 g n cap L st i j W' := by
  obtain ⟨M, y1, y2, y3⟩ := h.row
  exact ⟨bthen h.bel hb, ⟨M, y1, own_below y2 hb, y3⟩, h.lt, h.le⟩
theorem Df.skip (h : Df w0 g n cap L st i j W) (hj : j < L.length) (hn : n = L.length) (hs : st L[j] = true) : Df w0 g n cap L st i (j + 1) W := by
  obtain ⟨M, y1, y2, y3, y4⟩ := h.row
  refine ⟨h.bel, ⟨M, y1, y2, ?_, fun k hk => y4 k (by omega)⟩, by have := h.lt; omega, by omega⟩
  rw [y3, take_snoc L j hj, List.filter_append]
  simp [hs]
theorem Df.keep (h : Df w0 g n cap L st i j W) (hj : j < L.length) (hn : n = L.length) (hs : st L[j] = false) (hg : w0.heap.size ≤ g) :
    Df w0 g n cap L st (i + 1) (j + 1) (((((W.setCell ⟨g, i * 5, none⟩ (.int .i64 L[j].frm)).setCell ⟨g, i * 5 + 1, none⟩ (.int .i64 L[j].upto)).setCell ⟨g, i * 5 + 2, none⟩ (.int .i64 L[j].tier)).setCell ⟨g, i * 5 + 3, none⟩ (.int .i64 L[j].proj)).setCell ⟨g, i * 5 + 4, none⟩ (.int .i64 L[j].rows)) := by
  obtain ⟨M, y1, y2, y3, y4⟩ := h.row
  have hlt := h.lt
  have hiM : i < M.length := by omega
  refine ⟨bset (bset (bset (bset (bset h.bel hg _) hg _) hg _) hg _) hg _, ⟨M.set i L[j], by rw [List.length_set]; exact y1, own_put y2 hiM L[j], ?_, fun k hk => ?_⟩, by omega, by omega⟩
  · have h1 : i < (M.set i L[j]).length := by rw [List.length_set]; exact hiM
    rw [take_snoc _ i h1, take_snoc L j hj, List.filter_append, ← y3]
    congr 1
    · rw [List.take_set_of_le (Nat.le_refl _)]
    · simp [hs]
  · rw [List.getElem?_set_ne (by omega)]
    exact y4 k (by omega)
theorem Df.at_ (h : Df w0 g n cap L st i j W) (hj : j < L.length) (hn : n = L.length) : W.cell? ⟨g, j * 5, none⟩ = some (.int .i64 L[j].frm) ∧ W.cell? ⟨g, j * 5 + 1, none⟩ = some (.int .i64 L[j].upto) ∧ W.cell? ⟨g, j * 5 + 2, none⟩ = some (.int .i64 L[j].tier) ∧ W.cell? ⟨g, j * 5 + 3, none⟩ = some (.int .i64 L[j].proj) ∧ W.cell? ⟨g, j * 5 + 4, none⟩ = some (.int .i64 L[j].rows) := by
  obtain ⟨M, y1, y2, y3, y4⟩ := h.row
  have e1 := y4 j (Nat.le_refl _)
  rw [List.getElem?_eq_getElem (by omega), List.getElem?_eq_getElem hj] at e1
  have := own_cells y2 (k := j) (by omega)
  rw [Option.some.inj e1] at this
  exact this
theorem Df.place (h : Df w0 g n cap L st i j W) : ∃ x0 x1 x2 x3 x4, W.cell? ⟨g, i * 5, none⟩ = some x0 ∧ W.cell? ⟨g, i * 5 + 1, none⟩ = some x1 ∧ W.cell? ⟨g, i * 5 + 2, none⟩ = some x2 ∧ W.cell? ⟨g, i * 5 + 3, none⟩ = some x3 ∧ W.cell? ⟨g, i * 5 + 4, none⟩ = some x4 ∧ ∀ t, W.frozen? ⟨g, t, none⟩ = false := by
  obtain ⟨M, y1, y2, y3, y4⟩ := h.row
  have h1 := h.lt
  have h2 := h.le
  obtain ⟨t0, t1, t2, t3, t4⟩ := own_cells y2 (k := i) (by omega)
  exact ⟨_, _, _, _, _, t0, t1, t2, t3, t4, fun t => World.ownsRow.frozenAt y2 t⟩
theorem Df.clear (h : Df w0 g n cap L st i n W) (hn : n = L.length) (hi : i < n) (c : Nat) : ∃ w', (∀ ty, (Builtin.clear_ #[45] ty #[.slice (some ⟨g, i * 5, none⟩) (n - i) c]).run Try.prog W = .ok (.tuple #[]) w') ∧ W.grownBy w' (some g) ∧ Row w' (some ⟨g, 0, none⟩) (cellsX (L.filter fun x => !st x)) ∧ i = (L.filter fun x => !st x).length := by
  obtain ⟨M, y1, y2, y3, y4⟩ := h.row
  rw [hn, List.take_length] at y3
  have hlen : i = (L.filter fun x => !st x).length := by rw [← y3, List.length_take]; omega
  obtain ⟨w', h1, h2, h3⟩ := run_clear_x W g (i * 5) (n - i) c (by omega) (fun t ht => by
    have hlt : (i * 5 + t) / 5 < M.length := by omega
    obtain ⟨t0, t1, t2, t3, t4⟩ := own_cells y2 (k := (i * 5 + t) / 5) hlt
    have h5 : (i * 5 + t) % 5 < 5 := Nat.mod_lt _ (by decide)
    rcases (by omega : i * 5 + t = (i * 5 + t) / 5 * 5 ∨ i * 5 + t = (i * 5 + t) / 5 * 5 + 1 ∨ i * 5 + t = (i * 5 + t) / 5 * 5 + 2 ∨ i * 5 + t = (i * 5 + t) / 5 * 5 + 3 ∨ i * 5 + t = (i * 5 + t) / 5 * 5 + 4) with e | e | e | e | e <;> rw [e]
    · rw [t0]; rfl
    · rw [t1]; rfl
    · rw [t2]; rfl
    · rw [t3]; rfl
    · rw [t4]; rfl) (fun t _ => World.ownsRow.frozenAt y2 _)
  refine ⟨w', h1, h2, .inr ⟨g, 0, rfl, fun t u hu => ?_⟩, hlen⟩
  rw [← y3] at hu
  have hl : t < i * 5 := by
    rcases Nat.lt_or_ge t (i * 5) with h | h
    · exact h
    · rw [List.getElem?_eq_none (by rw [cellsX_length, List.length_take]; omega)] at hu; cases hu
  rw [Nat.zero_add, h3 t hl]
  have y2' := y2
  rw [← y1] at y2'
  obtain ⟨A, c', e, hr, -⟩ := own_sliceX y2'
  cases e
  rcases hr with h0 | ⟨b, off, e, hc⟩
  · have := cellsX_length M; rw [h0] at this; simp at this; omega
  · cases e
    have hM : M = M.take i ++ M.drop i := (List.take_append_drop i M).symm
    have := hc t u (by rw [hM, cellsX_app, List.getElem?_append_left (by rw [cellsX_length, List.length_take]; omega)]; exact hu)
    rw [Nat.zero_add] at this
    exact this
end
def DelPost (w0 : World) (L : List XZ) (e : Ending) (w' : World) : Prop := ∃ A m c, e = .returned (.slice A m c) ∧ m = L.length ∧ Row w' A (cellsX L) ∧ Below w0.heap.size w0 w'
set_option maxRecDepth 100000 in
set_option maxHeartbeats 16000000 in
theorem del_any (v : Value) (n q : Nat) (lb : Array Value) (st : XZ → Bool) (L : List XZ) (w0 w : World) (ho : w.ownsRow w0.heap.size 49 5 v n (cellsX L)) (hb : Below w0.heap.size w0 w) (hn : n ≤ 1000000)
    (eg : ∀ args w, (callFunc q args).run Try.prog w = .ok (.enter q args) w)
    (hq : ∀ W, Below w0.heap.size w0 W → ∀ x ∈ L, Calls Try.prog q (#[.agg #[.int .i64 x.frm, .int .i64 x.upto, .int .i64 x.tier, .int .i64 x.proj, .int .i64 x.rows]] ++ lb) W fun e W' => e = .returned (.bool (st x)) ∧ Below W.heap.size W W') :
    Calls Try.prog 33 #[v, .func (.func q) #[] lb] w (DelPost w0 (L.filter fun x => !st x)) := by
  have hnl : n = L.length := by have := ho.1; rw [cellsX_length] at this; omega
  have ho2 := ho
  rw [hnl] at ho2
  obtain ⟨A, cap, rfl, hr, hcap, -⟩ := own_sliceX ho2
  rw [← hnl] at hcap ho2 ⊢
  have HIX := Lib.hid (idxX_any A n cap q lb st L w hr hnl (by omega) eg (fun W hW x hx => hq W (bthen hb hW) x hx))
  have HO := Lib.hid ho2
  have HB := Lib.hid hb
  have HQ := Lib.hid hq
  have HNL := Lib.hid hnl
  have HR := Lib.hid hr
  clear ho ho2 hr hb hq hnl
  go_enter Try.func33, Try.ntmps33
  go_upto_region 2 with (go_at_call 59; refine HIX.out.mono ?_; rintro e w2 ⟨⟨i, hi, hf, vi, rfl, he⟩, hb2⟩; have HI := Lib.hid hi; have HF := Lib.hid hf; have HB2 := Lib.hid hb2; have HEE := Lib.hid he; clear hi hf hb2 he)
  rcases HEE.out with ⟨hil, hst, hvi⟩ | ⟨hil, hvi⟩
  all_goals clear HEE
  all_goals subst hvi
  case inr =>
    have HE := Lib.hid (show L.filter (fun x => !st x) = L from List.filter_eq_self.2 fun x hx => by
      obtain ⟨j, hj, rfl⟩ := List.mem_iff_getElem.1 hx
      rw [HF.out j hj (by omega)]; rfl)
    clear hil
    go_wp2_with fail
    go_ret
    exact ⟨A, n, cap, rfl, by rw [HE.out]; exact HNL.out, by rw [HE.out]; exact HR.out.keep (Nat.le_refl _) HB2.out, bthen HB.out HB2.out⟩
  case inl =>
  have hin : i < n := by rw [HNL.out]; exact hil
  obtain ⟨g, rfl, hgB⟩ : ∃ g, A = some ⟨g, 0, none⟩ ∧ w0.heap.size ≤ g := by
    rcases HO.out.2 with ⟨e, h0⟩ | ⟨g, cap', cur, e, h, -⟩
    · omega
    · cases e; exact ⟨g, rfl, h⟩
  have HD := Lib.hid (show Df w0 g n cap L st i (i + 1) w2 from ⟨bthen HB.out HB2.out, ⟨L, HNL.out.symm, own_below HO.out HB2.out, by
      rw [take_snoc L i hil, List.filter_append]
      have h1 : (L.take i).filter (fun x => !st x) = L.take i := List.filter_eq_self.2 fun x hx => by
        obtain ⟨j, hj, rfl⟩ := List.mem_iff_getElem.1 hx
        rw [List.length_take] at hj
        rw [List.getElem_take, HF.out j (by omega) (by omega)]; rfl
      rw [h1]; simp [hst], fun k _ => rfl⟩, by omega, by omega⟩)
  have hi0 : (0 : Int) ≤ (i : Int) := by omega
  have hi1 : ((i : Int) == -1) = false := by simp
  clear hil hst HIX HO HR
  go_upto_region 5 with fail
  go_loopw [5, 6] (fun v5 v6 wr => ∃ i j : Nat, v5 = .int .i64 i ∧ v6 = .int .i64 j ∧ i < j ∧ j ≤ n ∧ Hid (Df w0 g n cap L st i j wr)) (fun _ v6 _ => n - (intOf v6).toNat)
  case atStart => exact ⟨i, i + 1, rfl, by go_num, by omega, by omega, HD⟩
  case round =>
    obtain ⟨i, j, rfl, rfl, hij, hjn, HD⟩ := hrel
    obtain ⟨wo, rfl⟩ : ∃ wo : World, wo = wr := ⟨_, rfl⟩
    by_cases hlt : j < n
    case neg =>
      obtain rfl : j = n := by omega
      have hge : ¬ (j : Int) < (j : Int) := by omega
      obtain ⟨wc, hcl, hgc, hrow, hlen⟩ := HD.out.clear HNL.out hij (cap - i)
      have sl2 := fun W => slice_back g j cap i hij hcap W
      have sl3 := fun W => slice_front (some ⟨g, 0, none⟩) j cap i (by omega) hcap W
      have HBC := Lib.hid (show Below w0.heap.size w0 wc from HD.out.bel.grown hgc HD.out.bel.size (fun t e => by cases e; exact hgB))
      have HRW := Lib.hid hrow
      have HLN := Lib.hid hlen
      clear hgc hlt hrow hlen
      go_wp2_with fail
      go_ret
      exact ⟨_, i, _, rfl, HLN.out, HRW.out, HBC.out⟩
    case pos =>
    have hjz : j < L.length := by have := HNL.out; omega
    have hji : (j : Int) < (n : Int) := by omega
    have hj0 : (0 : Int) ≤ (j : Int) := by omega
    have hi0 : (0 : Int) ≤ (i : Int) := by omega
    have hin : (i : Int) < (n : Int) := by omega
    obtain ⟨q0, q1, q2, q3, q4⟩ := HD.out.at_ hjz HNL.out
    obtain ⟨x, hx⟩ : ∃ x, x = L[j] := ⟨_, rfl⟩
    rw [← hx] at q0 q1 q2 q3 q4
    obtain ⟨wb, hwb⟩ : ∃ wb, wb = wo.alloc (.cells #[.int .i64 x.frm, .int .i64 x.upto, .int .i64 x.tier, .int .i64 x.proj, .int .i64 x.rows] 49) := ⟨_, rfl⟩
    have hbb : Below wo.heap.size wo wb := by rw [hwb]; exact bpush (Below.refl _ _) _
    have hkb : Blk wb wo.heap.size 49 #[.int .i64 x.frm, .int .i64 x.upto, .int .i64 x.tier, .int .i64 x.proj, .int .i64 x.rows] := by rw [hwb]; exact Blk.new _ _ _
    obtain ⟨x0, x1, x2, x3, x4⟩ := xz_cells hkb
    have HDB := Lib.hid (HD.out.below hbb)
    have HCL := Lib.hid (HQ.out wb HDB.out.bel x (by rw [hx]; exact List.getElem_mem _))
    obtain ⟨r, hr⟩ : ∃ r, r = st x := ⟨_, rfl⟩
    rw [← hr] at HCL
    have HXE := Lib.hid hx
    have HRE := Lib.hid hr
    have HKB := Lib.hid hkb
    have HWB := Lib.hid hwb
    have HJZ := Lib.hid hjz
    obtain ⟨b, hbE⟩ : ∃ b, b = wo.heap.size := ⟨_, rfl⟩
    rw [← hbE] at x0 x1 x2 x3 x4 HKB
    have HBE := Lib.hid hbE
    clear hx hwb hbb hkb hr hlt hbE
    go_upto_region 8 with fail
    rw [← HWB.out, ← HBE.out]
    clear q0 q1 q2 q3 q4
    cases r with
    | true =>
      have HDS := Lib.hid (fun W (hW : Below wb.heap.size wb W) => (HDB.out.below hW).skip HJZ.out HNL.out (by rw [← HXE.out]; exact HRE.out.symm))
      go_wp2_with (go_at_fn q; refine HCL.out.mono ?_; rintro e w5 ⟨rfl, hb⟩; have HD5 := Lib.hid (HDS.out w5 hb); clear hb)
      go_roundw
      case rel => exact ⟨i, j + 1, rfl, by go_num, by omega, by omega, HD5⟩
      case measure => simp [intOf]; omega
    | false =>
      have HDS := Lib.hid (fun W (hW : Below wb.heap.size wb W) => show Df w0 g n cap L st (i + 1) (j + 1) (((((W.setCell ⟨g, i * 5, none⟩ (.int .i64 x.frm)).setCell ⟨g, i * 5 + 1, none⟩ (.int .i64 x.upto)).setCell ⟨g, i * 5 + 2, none⟩ (.int .i64 x.tier)).setCell ⟨g, i * 5 + 3, none⟩ (.int .i64 x.proj)).setCell ⟨g, i * 5 + 4, none⟩ (.int .i64 x.rows)) from by rw [HXE.out]; exact (HDB.out.below hW).keep HJZ.out HNL.out (by rw [← HXE.out]; exact HRE.out.symm) hgB)
      go_upto_region 9 with (go_at_fn q; refine HCL.out.mono ?_; rintro e w5 ⟨rfl, hb⟩; have HBW := Lib.hid hb; clear hb)
      obtain ⟨y0, y1, y2, y3, y4⟩ := xz_cells (HKB.out.below HBW.out)
      obtain ⟨z0, z1, z2, z3, z4, p0, p1, p2, p3, p4, pf⟩ := (HDB.out.below HBW.out).place
      have f0 := pf (i * 5)
      have f1 := pf (i * 5 + 1)
      have f2 := pf (i * 5 + 2)
      have f3 := pf (i * 5 + 3)
      have f4 := pf (i * 5 + 4)
      have HDN := Lib.hid (HDS.out w5 HBW.out)
      clear pf x0 x1 x2 x3 x4
      go_wp2_with fail
      go_roundw
      case rel => exact ⟨i + 1, j + 1, by go_num, by go_num, by omega, by omega, HDN⟩
      case measure => simp [intOf]; omega
end Go.Proofs.Ytgaallkdfcckpaa
