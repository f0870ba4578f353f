/- The least of a list's steps, and the steps less it. -/
import Derived.Test.YtedldajlioeioaaPB
import Derived.Maps.AppendAt
namespace Go.Proofs.Ytedldajlioeioaa
open Go.RowKit Go.Shelf
set_option linter.unusedSimpArgs false
set_option linter.unusedVariables false
attribute [local go_sem] Oper.semAt_some
theorem own_below {w w' : World} {B : Nat} {e : TypeId} {size : Nat} {v : Value} {n : Nat} {xs : List Value} (h : w.ownsRow B e size v n xs) (hb : Below w.heap.size w w') : w'.ownsRow B e size v n xs :=
  h.kept (row := none) ⟨hb.os, hb.tape, hb.output, hb.size, fun i hi _ => hb.block i hi⟩ (by cases v.ownBlock <;> simp)
theorem own_slice {B : Nat} {w : World} {e : TypeId} {v : Value} {n : Nat} {xs : List Value} (h : w.ownsRow B e 1 v n xs) : ∃ A c, v = .slice A n c ∧ Row w A xs ∧ n ≤ c ∧ (A = none → c = 0) := by
  have hn : n = xs.length := by have := h.1; simpa using this.symm
  rcases h.2 with ⟨rfl, h0⟩ | ⟨g, cap, cur, rfl, _, _, hc, _⟩
  · have hz0 : xs = [] := List.length_eq_zero_iff.1 (by omega)
    exact ⟨none, 0, by rw [h0], .inl hz0, by omega, fun _ => rfl⟩
  · rcases Nat.eq_zero_or_pos n with h0 | h0
    · have hz0 : xs = [] := List.length_eq_zero_iff.1 (by omega)
      exact ⟨_, cap, rfl, .inl hz0, hc, fun h => by cases h⟩
    · obtain ⟨g', cap', he, _, hr⟩ := Row.of_own h h0
      cases he
      exact ⟨_, cap, rfl, hr, hc, fun h => by cases h⟩
def OffPost (w : World) (L : List Int) (e : Ending) (w' : World) : Prop :=
  ∃ A c, e = .returned (.tuple #[.int .i64 (leastZ (stepsZ L)), .slice A (L.length - 1) c]) ∧ Row w' A (u64s (offZ L)) ∧ L.length - 1 ≤ c ∧ (A = none → c = 0) ∧ Below w.heap.size w w'
/-- The least step so far, and whether there is one. -/
def Least (n₀ b1 : Nat) (w : World) (xs : List Int) (W : World) : Prop := (Boxed W b1 3 (.int .i64 (leastZ xs)) ∧ Boxed W (b1 + 1) 4 (.bool (!xs.isEmpty))) ∧ Below n₀ w W
theorem least_own (n₀ b1 D : Nat) (w : World) (hD : n₀ ≤ D) (hw : n₀ ≤ w.heap.size) (h1 : b1 + 1 < D) : OwnFrom D (fun pre W => Least n₀ b1 w pre W) :=
  OwnFrom.and (fun s A B row h hg hr => ⟨(hg.block b1 (Array.getElem?_eq_some_iff.1 h.1).1 (fun e => by have := (hr b1 e.symm).1; omega)).trans h.1,
    (hg.block (b1 + 1) (Array.getElem?_eq_some_iff.1 h.2).1 (fun e => by have := (hr (b1 + 1) e.symm).1; omega)).trans h.2⟩) (ownFrom_below hw hD)
/-- A step less the base. -/
def overZ (B x : Int) : Int := (x - B) % 18446744073709551616
/-- The list that is being filled. -/
def Col (n₀ b B : Nat) (D : Int) (w : World) (xs : List Int) (W : World) : Prop := (∃ v, Boxed W b 34 v ∧ W.ownsRow n₀ 36 1 v xs.length (xs.map fun x => Value.int .u64 (overZ D x)) ∧ True) ∧ Below n₀ w W
theorem col_own (n₀ b B : Nat) (D : Int) (w : World) (E : Nat) (hE : n₀ ≤ E) (hw : n₀ ≤ w.heap.size) : OwnFrom E (fun pre W => Col n₀ b B D w pre W) :=
  OwnFrom.and (Own.from (holdsRow_own n₀ b 34 36 1 (fun pre : List Int => pre.length) (fun pre => pre.map fun x => Value.int .u64 (overZ D x)) (fun _ _ => True)) _) (ownFrom_below hw hE)
theorem over_off {L : List Int} {B : Int} (hB : leastZ (stepsZ L) = B) : (stepsZ L).map (fun x => Value.int .u64 (overZ B x)) = u64s (offZ L) := by
  unfold u64s offZ
  rw [List.map_map]
  apply List.map_congr_left
  intro s hs
  have h1 := steps_ints L s hs
  have h2 := least_ints (steps_ints L)
  have h3 := least_le hs
  rw [hB] at h2 h3
  unfold i64 at h1 h2
  simp only [Function.comp, overZ, hB]
  congr 1
  omega
theorem kb_b {n₀ Bs : Nat} {w : World} (hm : n₀ ≤ w.heap.size) (hB : Bs < w.heap.size) (W : World) (l : Nat) (o o' : Obj) (hl : w.heap.size ≤ l) (ho : W.heap[l]? = some o) (hc : o.isCells = false) (hw : o.isWalk = false) : KB n₀ Bs W (W.putObj l o') :=
  ⟨belowK_b hm W l o o' hl ho hc hw, World.putObj_heap_other (by omega)⟩
set_option maxRecDepth 100000 in
set_option maxHeartbeats 4000000 in
theorem offsets_any (A : Option Addr) (m c : Nat) (L : List Int) (w : World) (hA : Row w A (L.map (Value.int .i64))) (hm : m = L.length) (hl9 : m ≤ 70000) (hL : ints L) :
    Calls Try.prog 16 #[.slice A m c] w (OffPost w L) := by
  refine (callsIn_wide (n := 9)).1 ?_
  have HA := Lib.hid hA
  have HM := Lib.hid hm
  have HL := Lib.hid hL
  obtain ⟨i0, hi0, hz0, hz1, hz2⟩ := info_parts Try.info36
  clear hA hm hL
  refine callsIn_of_wp_marks Try.func16 rfl trivial ?_ rfl
  simp only [Try.ntmps16, List.size_toArray, List.length_cons, List.length_nil, Nat.reduceAdd, Nat.reduceSub, Array.replicate_succ, Array.replicate_zero, List.push_toArray, List.append_toArray, List.nil_append, List.cons_append]
  gi_wp2
  refine ⟨trivial, (callsIn_wide.2 (steps_maker A m c _)).mono ?_⟩
  rintro e w3 ⟨rfl, hw3⟩
  obtain ⟨b1, hb1⟩ : ∃ b1, b1 = w.heap.size := ⟨_, rfl⟩
  have hs3 : w3.heap.size = b1 + 3 := by rw [hw3, hb1]; simp
  have HX1 := Lib.hid (show Boxed w3 b1 3 (.int .i64 0) by rw [hw3, hb1]; exact ((Boxed.new _ _ _).alloc _).alloc _)
  have HX2 := Lib.hid (show Boxed w3 (b1 + 1) 4 (.bool false) by
    rw [hw3, hb1]; have := (Boxed.new (w.alloc (Obj.cells #[Value.int IntKind.i64 0] 3)) 4 (.bool false)).alloc (Obj.cells #[Value.slice A m c] 22); rw [World.size_alloc] at this; exact this)
  have HX3 := Lib.hid (show w3.cell? ⟨b1 + 2, 0, none⟩ = some (.slice A m c) by
    rw [hw3, hb1]; have := (Boxed.new ((w.alloc (Obj.cells #[Value.int IntKind.i64 0] 3)).alloc (Obj.cells #[Value.bool false] 4)) 22 (.slice A m c)).cell; rw [World.size_alloc, World.size_alloc] at this; exact this)
  have HB3 := Lib.hid (show Below w.heap.size w w3 by rw [hw3]; exact bpush (bpush (bpush (Below.refl _ _) _) _) _)
  have HBB := Lib.hid hb1
  have HB1 := Lib.hid (show w.heap.size ≤ b1 by omega)
  clear hw3 hb1
  gi_wp2
  rw [← HBB.out]
  refine wpIn_rangeFunc_ownF rfl (by omega) (gf := 47) (lb := #[.pointer (some ⟨b1 + 1 + 1, 0, none⟩)]) rfl trivial (enters_of Try.func47 (by kernel_rfl) rfl)
    (steps_stops (9 - 1) (by omega) (b1 + 2) b1 m c A L HM.out (by omega) HL.out w (by have := HBB.out; omega) w3 HX3.out HA.out (by rw [HBB.out]; exact HB3.out) (by omega) (by omega)) (fun h k => h.trans k) (kb_b (by omega) (by omega)) (Below.refl _ _) (fun _ => rfl)
    (fun pre W => Least w.heap.size b1 w pre W) (fun _ _ _ => False) (least_own _ _ _ _ HB3.out.size (Nat.le_refl _) (by omega)) (fun _ _ _ _ _ hs _ _ => hs)
    ⟨⟨HX1.out, HX2.out⟩, HB3.out⟩
    (fun x => { tmps := #[Value.slice A m c, undef, Value.int IntKind.i64 0, Value.slice none 0 0, Value.pointer (some ⟨b1, 0, none⟩), Value.pointer (some ⟨b1 + 1, 0, none⟩), Value.int .i64 x, undef, undef, Value.slice A m c, Value.func (Fn.func 47) #[] #[Value.pointer (some ⟨b1 + 1 + 1, 0, none⟩)], Value.int .i64 x, undef, undef, undef, undef, undef, undef, undef, undef, undef, undef, undef, undef, undef, undef, undef, undef, undef, undef, undef, undef, undef], defers := [] }) ?assign ?body ?done ?stop
  case assign =>
    intro l x W K hK
    gi_wp2
    exact hK
  case stop =>
    rintro D c pre W _ _ h _
    exact h.elim
  case body =>
    rintro l pre x W ⟨⟨hx1, hx2⟩, hB⟩ hlen
    have hc1 := hx1.cell
    have hf1 := hx1.frozen
    have hf2 := hx2.frozen
    have hne : b1 ≠ b1 + 1 := by omega
    have HI := Lib.hid (show ∀ u : Int, Boxed ((W.setCell ⟨b1, 0, none⟩ (.int .i64 u)).setCell ⟨b1 + 1, 0, none⟩ (.bool true)) b1 3 (.int .i64 u) ∧ Boxed ((W.setCell ⟨b1, 0, none⟩ (.int .i64 u)).setCell ⟨b1 + 1, 0, none⟩ (.bool true)) (b1 + 1) 4 (.bool true) from fun u =>
      ⟨(Below.heap_setCell _ ⟨b1 + 1, 0, none⟩ _ b1 (by simp)).trans (hx1.set _), Boxed.set _ ((Below.heap_setCell W ⟨b1, 0, none⟩ _ (b1 + 1) (by simp)).trans hx2)⟩)
    have HKO := Lib.hid (show ∀ u : Int, KeepsOthers W ((W.setCell ⟨b1, 0, none⟩ (.int .i64 u)).setCell ⟨b1 + 1, 0, none⟩ (.bool true)) from fun u => (KeepsOthers.setCell _ _ _).trans (KeepsOthers.setCell _ _ _))
    have HBL := Lib.hid (show ∀ u : Int, Below w.heap.size W ((W.setCell ⟨b1, 0, none⟩ (.int .i64 u)).setCell ⟨b1 + 1, 0, none⟩ (.bool true)) from fun u =>
      ((Below.refl _ _).setCell (p := ⟨b1, 0, none⟩) HB1.out _).setCell (p := ⟨b1 + 1, 0, none⟩) (Nat.le_trans HB1.out (Nat.le_succ _)) _)
    have HKS := Lib.hid (show ∀ u : Int, ((W.setCell ⟨b1, 0, none⟩ (.int .i64 u)).setCell ⟨b1 + 1, 0, none⟩ (.bool true)).heap[b1 + 2]? = W.heap[b1 + 2]? from fun u =>
      (Below.heap_setCell _ ⟨b1 + 1, 0, none⟩ _ (b1 + 2) (by simp)).trans (Below.heap_setCell _ ⟨b1, 0, none⟩ _ (b1 + 2) (by simp)))
    have HBW := Lib.hid hB
    have HX := Lib.hid hx1
    have HXX := Lib.hid hx2
    cases pre with
    | nil =>
      have hc2 : W.cell? ⟨b1 + 1, 0, none⟩ = some (.bool false) := hx2.cell
      clear hx1 hx2 hlen hB
      gi_wp2
      exact ⟨HKO.out _, ⟨by rw [← HBB.out] at HBL; exact HBL.out _, HKS.out _⟩, HI.out x, HBW.out.trans (HBL.out _)⟩
    | cons p pre =>
      have hc2 : W.cell? ⟨b1 + 1, 0, none⟩ = some (.bool true) := hx2.cell
      have hls : leastZ (p :: (pre ++ [x])) = min (leastZ (p :: pre)) x := least_snoc (l := p :: pre) (by simp) x
      obtain ⟨B, hB2⟩ : ∃ B, leastZ (p :: pre) = B := ⟨_, rfl⟩
      rw [hB2] at hls hc1
      have HLS := Lib.hid hls
      have HB2 := Lib.hid hB2
      clear hx1 hx2 hlen hB hls hB2
      by_cases hxb : x < B
      · gi_wp2
        exact ⟨HKO.out _, ⟨by rw [← HBB.out] at HBL; exact HBL.out _, HKS.out _⟩, ⟨by show Boxed _ b1 3 (.int .i64 (leastZ (p :: (pre ++ [x])))); rw [HLS.out, show min B x = x by omega]; exact (HI.out x).1, (HI.out x).2⟩, HBW.out.trans (HBL.out _)⟩
      · gi_wp2
        exact ⟨KeepsOthers.refl _, ⟨Below.refl _ _, rfl⟩, ⟨by show Boxed _ b1 3 (.int .i64 (leastZ (p :: (pre ++ [x])))); rw [HLS.out, show min B x = B by omega, ← HB2.out]; exact HX.out, HXX.out⟩, HBW.out⟩
  case done =>
    rintro D1 ys W hD1 rfl ⟨⟨hx1, hx2⟩, hB⟩ hK
    obtain ⟨B, hB2⟩ : ∃ B, leastZ (stepsZ L) = B := ⟨_, rfl⟩
    rw [hB2] at hx1
    have HX1 := Lib.hid hx1
    have HBW := Lib.hid hB
    have HK := Lib.hid hK
    have HB2 := Lib.hid hB2
    have hc1 := hx1.cell
    clear hx1 hx2 hB hK hB2 HX2 HX3 HB3
    gi_wp2
    refine ⟨trivial, (callsIn_wide.2 (steps_maker A m c _)).mono ?_⟩
    rintro e w4 ⟨rfl, hw4⟩
    have HW4 := Lib.hid hw4
    clear hw4
    have hs4 : w4.heap.size = W.heap.size + 2 := by rw [HW4.out]; simp
    have HX4 := Lib.hid (show Boxed w4 W.heap.size 34 (.slice none 0 0) by rw [HW4.out]; exact (Boxed.new _ _ _).alloc _)
    have HC4 := Lib.hid (show w4.cell? ⟨W.heap.size + 1, 0, none⟩ = some (.slice A m c) by
      rw [HW4.out]; have := (Boxed.new (W.alloc (Obj.cells #[Value.slice none 0 0] 34)) 22 (.slice A m c)).cell; rw [World.size_alloc] at this; exact this)
    have HX24 := Lib.hid (show Boxed w4 (W.heap.size + 1) 22 (.slice A m c) by
      rw [HW4.out]; have := Boxed.new (W.alloc (Obj.cells #[Value.slice none 0 0] 34)) 22 (.slice A m c); rw [World.size_alloc] at this; exact this)
    have HX14 := Lib.hid (show Boxed w4 b1 3 (.int .i64 B) by rw [HW4.out]; exact (HX1.out.alloc _).alloc _)
    have hDlt : D1 < W.heap.size := (Array.getElem?_eq_some_iff.1 HK.out).1
    have HD4 := Lib.hid (show w4.heap[D1]? = some (.deferred (some [])) by rw [HW4.out]; exact (Below.heap_alloc _ _ D1 (by simp; omega)).trans ((Below.heap_alloc W _ D1 hDlt).trans HK.out))
    have HB4 := Lib.hid (show Below w.heap.size w w4 by rw [HW4.out]; exact bpush (bpush HBW.out _) _)
    obtain ⟨b4, hb4⟩ : ∃ b4, b4 = W.heap.size := ⟨_, rfl⟩
    rw [← hb4] at hs4 HX4 HC4 hDlt HX24
    have HB44 := Lib.hid hb4
    have hb14 : b1 + 3 ≤ b4 := by
      have h1 := hs3
      have h2 := hD1
      omega
    have hs4' : b4 + 2 ≤ w4.heap.size := by omega
    clear HK HBW HX1 hb4
    gi_wp2
    rw [← HB44.out]
    clear HB44 HW4
    refine wpIn_rangeFunc_ownF rfl (by omega) (gf := 47) (lb := #[.pointer (some ⟨b4 + 1, 0, none⟩)]) rfl trivial (enters_of Try.func47 (by kernel_rfl) rfl)
      (steps_stops (9 - 1) (by omega) (b4 + 1) w.heap.size m c A L HM.out (by omega) HL.out w (Nat.le_refl _) w4 HC4.out HA.out HB4.out HB4.out.size (by omega)) (fun h k => h.trans k) (kb_b HB4.out.size (by omega)) (Below.refl _ _) (fun _ => rfl)
      (fun pre W' => Col w.heap.size b4 0 B w pre W' ∧ Boxed W' b1 3 (.int .i64 B) ∧ W'.heap[D1]? = some (.deferred (some [])) ∧ Boxed W' (b4 + 1) 22 (.slice A m c)) (fun _ _ _ => False)
      (OwnFrom.and (col_own _ _ _ _ _ _ HB4.out.size (Nat.le_refl _)) (fun s A' B' row h hg hr => ⟨(hg.block b1 (Array.getElem?_eq_some_iff.1 h.1).1 (fun e => by have := (hr b1 e.symm).1; omega)).trans h.1, (hg.block D1 (Array.getElem?_eq_some_iff.1 h.2.1).1 (fun e => by have := (hr D1 e.symm).1; omega)).trans h.2.1, (hg.block (b4 + 1) (Array.getElem?_eq_some_iff.1 h.2.2).1 (fun e => by have := (hr (b4 + 1) e.symm).1; omega)).trans h.2.2⟩)) (fun _ _ _ _ _ hs _ _ => hs)
      ⟨⟨⟨_, HX4.out, World.ownsRow_nil _ _ _ _, trivial⟩, HB4.out⟩, HX14.out, HD4.out, HX24.out⟩
      (fun x => { tmps := #[Value.slice A m c, undef, Value.int IntKind.i64 0, Value.slice none 0 0, Value.pointer (some ⟨b1, 0, none⟩), Value.pointer (some ⟨b1 + 1, 0, none⟩), undef, Value.pointer (some ⟨b4, 0, none⟩), Value.int .i64 x, Value.slice A m c, Value.func (Fn.func 47) #[] #[Value.pointer (some ⟨b1 + 1 + 1, 0, none⟩)], undef, undef, undef, undef, undef, undef, undef, undef, undef, Value.slice A m c, Value.func (Fn.func 47) #[] #[Value.pointer (some ⟨b4 + 1, 0, none⟩)], Value.int .i64 x, undef, undef, undef, undef, undef, undef, undef, undef, undef, undef], defers := [] }) ?assign2 ?body2 ?done2 ?stop2
    case assign2 =>
      intro l x W K hK
      gi_wp2
      exact hK
    case stop2 =>
      rintro D c pre W _ _ h _
      exact h.elim
    case body2 =>
      clear HD4 HX14 hs4 HC4 HX4 HB4 HX24
      rintro l pre x W ⟨⟨⟨v, hbx, hown, -⟩, hB⟩, hx1, hdf, hx2⟩ hlen
      have hcb := hbx.cell
      have hfb := hbx.frozen
      have hc1 := hx1.cell
      have hw1 : IntKind.u64.wrap (IntKind.u64.wrap x - IntKind.u64.wrap B) = overZ B x := by rw [u64_wrap, u64_wrap, u64_wrap]; unfold overZ; omega
      have hln : pre.length < L.length - 1 := hlen
      obtain ⟨q, hq⟩ : ∃ q, pre.length = q := ⟨_, rfl⟩
      have HLN := Lib.hid (show q ≤ 70000 by have := HM.out; omega)
      have hpl := HLN.out
      have HQ := Lib.hid hq
      rw [hq] at hown
      have HOWN := Lib.hid hown
      have HBXX := Lib.hid hbx
      have HBW := Lib.hid hB
      have HDF := Lib.hid hdf
      have HX := Lib.hid hx1
      have HX2 := Lib.hid hx2
      have hb14' : w.heap.size ≤ b4 := by have := HB1.out; omega
      clear hlen hln hq hbx hB hdf hx1 hx2
      gi_wp2_with (gi_at_builtin; refine wpListIn_append_own _ rfl _ _ 34 rfl w.heap.size 36 i0 (.int .u64 0) 1 8 Try.underlying34 hi0 hz0 hz1 hz2 rfl (by decide) _ _ _ rfl (hown.alloc _) ⟨W.heap.size, 0, none⟩ 1 1 [.int .u64 (overZ B x)] rfl rfl (cell_one_new _ _ _) (by simp [Value.oneCell']) (by unfold maxLen; omega) (by omega) (by have := HBW.out.size; simp; omega) ?_)
      intro v' w1' hown' hgrow _
      obtain ⟨g', cap', rfl⟩ := ownsRow_succ hown'
      obtain ⟨hv1, hv2, hr2, hk2, hb2⟩ := HBXX.out.appended (by decide) HOWN.out HBW.out.size hb14' hown' hgrow
      have HKX := Lib.hid (show ∀ b t u, b < W.heap.size → b ≠ b4 → t ≠ 36 → Boxed W b t u → (w1'.setCell ⟨b4, 0, none⟩ (.slice (some ⟨g', 0, none⟩) (q + 1) cap')).heap[b]? = W.heap[b]? from fun b t u hb hne ht hbb =>
        (Below.heap_setCell w1' ⟨b4, 0, none⟩ _ b hne).trans ((hgrow.block b (by simp; omega) (hbb.not_row ht HOWN.out)).trans (Below.heap_alloc W _ b hb)))
      have hc1' := hv1.cell
      have hf1 := hv1.frozen
      have HV2 := Lib.hid hv2
      have HR2 := Lib.hid hr2
      have HK2 := Lib.hid hk2
      have HB2' := Lib.hid hb2
      clear hv1 hv2 hr2 hk2 hb2 hown' hgrow hown
      gi_wp2
      exact ⟨HK2.out, ⟨HB2'.out, HKX.out _ _ _ HX2.out.lt (by omega) (by decide) HX2.out⟩, ⟨⟨_, HV2.out, by rw [List.length_append, HQ.out, List.map_append]; simpa using HR2.out, trivial⟩, HBW.out.trans HB2'.out⟩,
        (HKX.out _ _ _ HX.out.lt (by omega) (by decide) HX.out).trans HX.out, HK2.out.same D1 _ HDF.out rfl, (HKX.out _ _ _ HX2.out.lt (by omega) (by decide) HX2.out).trans HX2.out⟩
    case done2 =>
      clear HD4 HX14 hs4 HC4 HX4 HB4 HX24
      rintro D2 ys W5 hD2 rfl ⟨⟨⟨v, hbx, hown, -⟩, hB⟩, hx1, hdf, hx2⟩ hK
      rw [over_off HB2.out] at hown
      obtain ⟨A5, c5, rfl, hr5, hcc5, hn5⟩ := own_slice hown
      have hlen : (stepsZ L).length = m - 1 := by rw [steps_length, ← HM.out]
      rw [hlen] at hown hbx hcc5
      have hcb := hbx.cell
      have hc1 := hx1.cell
      have HR5 := Lib.hid hr5
      have HBW := Lib.hid hB
      have HDF := Lib.hid hdf
      have HDK := Lib.hid hK
      have HN5 := Lib.hid hn5
      have HFIN := Lib.hid (show ∀ (w' : World), Below w.heap.size w w' → Row w' A5 (u64s (offZ L)) → OffPost w L (.returned (.tuple #[.int .i64 B, .slice A5 (m - 1) c5])) w' from fun w' h1 h2 =>
        ⟨A5, c5, by rw [HB2.out, HM.out], h2, by rw [← HM.out]; exact hcc5, HN5.out, h1⟩)
      clear hlen hbx hB hx1 hdf hx2 hK hr5 hn5 hown
      have HW5 : ∀ q, Below w.heap.size w (W5.drewN q) ∧ Row (W5.drewN q) A5 (u64s (offZ L)) ∧ (W5.drewN q).heap[D1]? = some (.deferred (some [])) ∧ (W5.drewN q).heap[D2]? = some (.deferred (some [])) := fun q =>
        ⟨below_drewN HBW.out q, HR5.out.keep (Nat.le_refl _) (below_drewN (Below.refl _ _) q), HDF.out, HDK.out⟩
      have HWW := Lib.hid HW5
      clear HW5 HDF HDK HR5 HBW
      gi_wp2
      refine wpIn_wide.2 ?_
      go_quiet (fail)
      obtain ⟨wd, hwd⟩ : ∃ wd, wd = W5.drewN nq := ⟨_, rfl⟩
      have HWD := Lib.hid (HWW.out nq)
      rw [← hwd] at HWD ⊢
      clear hwd hcb hc1 HWW
      gi_wp2
      obtain ⟨hw1, hw2, hw3, hw4⟩ := HWD.out
      have hdd : D1 ≠ D2 := by omega
      refine ⟨by simp, .inl ⟨_, _, rfl, run_takeDeferred hw4, ?_⟩⟩
      have hd1 : (wd.putObj D2 (Obj.deferred none)).heap[D1]? = some (.deferred (some [])) := (World.putObj_heap_other hdd).trans hw3
      refine ⟨by simp, .inl ⟨_, _, rfl, run_takeDeferred hd1, ?_⟩⟩
      have hsD : w.heap.size ≤ D1 := by have := HB1.out; omega
      have hpb : ∀ {W W' : World} {d : Nat} {o : Obj}, Below w.heap.size w W → w.heap.size ≤ d → W' = W.putObj d o → Below w.heap.size w W' := fun {W W' d o} h hd e => by
        subst e; exact h.grown (grownBy_putObj' _ _ _) h.size (fun j e => by cases e; exact hd)
      have hB8 : Below w.heap.size w ((wd.putObj D2 (Obj.deferred none)).putObj D1 (Obj.deferred none)) := hpb (hpb hw1 (by omega) rfl) hsD rfl
      have hrow8 : Row ((wd.putObj D2 (Obj.deferred none)).putObj D1 (Obj.deferred none)) A5 (u64s (offZ L)) := by
        rcases hw2 with h | ⟨b, off, rfl, hc⟩
        · exact .inl h
        · refine .inr ⟨b, off, rfl, fun j u hu => ?_⟩
          have h := hc j u hu
          have hne : ∀ d, wd.heap[d]? = some (.deferred (some [])) → b ≠ d := fun d hd e => by
            subst e
            simp [World.cell?, hd] at h
          unfold World.cell? at h ⊢
          rw [show (World.putObj (World.putObj wd D2 (Obj.deferred none)) D1 (Obj.deferred none)).heap[(⟨b, off + j, none⟩ : Addr).block]? = wd.heap[(⟨b, off + j, none⟩ : Addr).block]? from
            (World.putObj_heap_other (hne D1 hw3)).trans (World.putObj_heap_other (hne D2 hw4))]
          exact h
      exact ⟨_, by simp [results, Try.results16, go_sem], HFIN.out _ hB8 hrow8⟩
end Go.Proofs.Ytedldajlioeioaa
