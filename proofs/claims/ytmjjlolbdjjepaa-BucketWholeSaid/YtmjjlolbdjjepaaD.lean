/- The stretches, told one by one to a loop's body. -/
import Derived.Test.YtmjjlolbdjjepaaC
import Derived.RangeFuncNested
import Derived.RangeFuncBound
import Derived.RangeFuncCalls
import Derived.RangeFuncLeaves
import Derived.Shelf.Abstract
import Derived.Shelf.RegionOpen
import Derived.OwnWalkIn
import Derived.TacticsInMore
import Derived.LoopNIn
import Derived.LoopIn
import Derived.Deep.Draws
import Derived.Laws.Rows
import Derived.Deep.QuietTactic
import Derived.BigQuiet
import Derived.Sort.QuietIn
import Derived.IntWalk
namespace Go.Proofs.Ytmjjlolbdjjepaa
open Go.RowKit Go.Shelf
set_option linter.unusedSimpArgs false
set_option linter.unusedVariables false
attribute [local go_sem] Oper.semAt_some
def nxt (g t f : Int) : Int := min (flr f g + g) t
def pos (g t f : Int) : Nat → Int
  | 0 => f
  | k + 1 => nxt g t (pos g t f k)
theorem nxt_bd {g t f : Int} (hg : 1 ≤ g) (h : f < t) : f < nxt g t f ∧ nxt g t f ≤ t := by
  have := flr_bd (t := f) hg
  unfold nxt; omega
def Blk (w : World) (g : Nat) (t : TypeId) (cs : Array Value) : Prop := w.heap[g]? = some (.cells cs t (0, 0))
section
variable {w w' : World} {g : Nat} {t : TypeId} {cs : Array Value}
theorem Blk.lt (h : Blk w g t cs) : g < w.heap.size := by
  rcases Nat.lt_or_ge g w.heap.size with hlt | hge
  · exact hlt
  · unfold Blk at h; rw [Array.getElem?_eq_none hge] at h; cases h
theorem Blk.cell (h : Blk w g t cs) (i : Nat) : w.cell? ⟨g, i, none⟩ = cs[i]? := cell_of_row w g i cs t (0, 0) h
theorem Blk.frozen (h : Blk w g t cs) (i : Nat) : w.frozen? ⟨g, i, none⟩ = false := by
  unfold Blk at h
  simp [World.frozen?, h]
theorem Blk.new (w : World) (t : TypeId) (cs : Array Value) : Blk (w.alloc (.cells cs t)) w.heap.size t cs := heap_alloc_new w _
theorem Blk.drewN (h : Blk w g t cs) (n : Nat) : Blk (w.drewN n) g t cs := h
theorem Blk.alloc (h : Blk w g t cs) (o : Obj) : Blk (w.alloc o) g t cs := (Below.heap_alloc w o g h.lt).trans h
theorem Blk.set_ (h : Blk w g t cs) (i : Nat) (u : Value) : Blk (w.setCell ⟨g, i, none⟩ u) g t (cs.setIfInBounds i u) := by
  unfold Blk at h ⊢
  simp [World.setCell, Array.getElem?_modify, h]
theorem Blk.far (h : Blk w g t cs) {p : Addr} (hp : g ≠ p.block) (u : Value) : Blk (w.setCell p u) g t cs := (Below.heap_setCell w p u g hp).trans h
theorem Blk.below {B : Nat} (h : Blk w g t cs) (hb : Below B w w') (hg : g < B) : Blk w' g t cs := (hb.block g hg).trans h
end
theorem quiet_left {P : Program} {f : FuncId} {args : Array Value} {w : World} {n : Nat} {v : Value}
    (h : Calls P f args (w.drewN n) fun e w' => e = .returned v ∧ w.drewN n = w') : Calls P f args (w.drewN n) fun e w'' => e = .returned v ∧ ∃ m, w'' = w.drewN m :=
  h.mono fun _ _ ⟨he, hm⟩ => ⟨he, n, hm.symm⟩
/-- The iterator's own three cells. -/
def Box3 (W : World) (pf pt pg : Nat) (f t g : Int) : Prop := Blk W pf 3 #[.int .i64 f] ∧ Blk W pt 3 #[.int .i64 t] ∧ Blk W pg 3 #[.int .i64 g]
/-- Where the iterator is. -/
def atOf (pf : Nat) (W : World) : Int := match W.cell? ⟨pf, 0, none⟩ with | some v => intOf v | none => 0
theorem atOf_box {pf pt pg : Nat} {f t g : Int} {W : World} (h : Box3 W pf pt pg f t g) : atOf pf W = f := by
  unfold atOf; rw [h.1.cell 0]; rfl
set_option maxRecDepth 100000 in
set_option maxHeartbeats 2000000 in
theorem str_any (n l pf pt pg : Nat) (f t g : Int) (hg : okGran g) (hf : okTime f) (ht : okTime t) (h1 : pf ≠ pt) (h2 : pf ≠ pg) (J Jx : Nat → World → Prop)
    (hJd : ∀ k W m, J k W → J k (W.drewN m)) (hJs : ∀ k W v, J k W → J k (W.setCell ⟨pf, 0, none⟩ v))
    (hY : ∀ k W, J k W → Box3 W pf pt pg (pos g t f k) t g → pos g t f k < t → YieldAt Fence.wide (n - 1) Try.prog l #[.agg #[.int .i64 (pos g t f k), .int .i64 (pos g t f (k + 1))]] W fun e W' =>
      (e = .returned (.bool true) ∧ J (k + 1) W' ∧ Box3 W' pf pt pg (pos g t f k) t g) ∨ (e = .returned (.bool false) ∧ Jx (k + 1) W'))
    (W : World) (h0 : J 0 W) (hb : Box3 W pf pt pg f t g) :
    CallsIn Fence.wide n Try.prog 26 #[.func (.yield l) #[] #[], .pointer (some ⟨pf, 0, none⟩), .pointer (some ⟨pt, 0, none⟩), .pointer (some ⟨pg, 0, none⟩)] W fun e W' => (∃ v, e = .returned v) ∧
      ((∃ k, t ≤ pos g t f k ∧ (∀ i, i < k → pos g t f i < t) ∧ J k W') ∨ (∃ k, (∀ i, i < k → pos g t f i < t) ∧ Jx k W')) := by
  obtain ⟨g1, g2⟩ := hg
  refine callsIn_of_wp Try.func26 rfl trivial ?_ rfl
  simp only [Try.ntmps26, List.size_toArray, List.length_cons, List.length_nil, Nat.reduceAdd, Nat.reduceSub, Array.replicate_succ, Array.replicate_zero, List.push_toArray, List.append_toArray, List.nil_append, List.cons_append]
  gi_wp2
  have HB := Lib.hid hb
  have HJ0 := Lib.hid h0
  have HY := Lib.hid hY
  clear hb h0 hY
  gi_loopw [5] (fun _ wr => ∃ (k : Nat) (z : Int), Hid (z = pos g t f k) ∧ -1099511627776 ≤ z ∧ z ≤ 1099511627776 ∧ Hid (Box3 wr pf pt pg z t g) ∧ Hid (∀ i, i < k → pos g t f i < t) ∧ Hid (J k wr))
    (fun _ wr => (t - atOf pf wr).toNat)
  case atStart => exact ⟨0, f, Lib.hid rfl, hf.1, hf.2, HB, Lib.hid (fun i hi => absurd hi (by omega)), HJ0⟩
  case round =>
    obtain ⟨k, z, HZ, hz1, hz2, HB3, HI, HJ⟩ := hrel
    have hcf : wr.cell? ⟨pf, 0, none⟩ = some (.int .i64 z) := HB3.out.1.cell 0
    have hct : wr.cell? ⟨pt, 0, none⟩ = some (.int .i64 t) := HB3.out.2.1.cell 0
    have hcg : wr.cell? ⟨pg, 0, none⟩ = some (.int .i64 g) := HB3.out.2.2.cell 0
    by_cases hlt : z < t
    · have hfb := flr_bd (t := z) g1
      have hnb := nxt_bd g1 hlt
      obtain ⟨F, hF⟩ : ∃ F, F = flr z g := ⟨_, rfl⟩
      obtain ⟨E, hE⟩ : ∃ E, min (F + g) t = E := ⟨_, rfl⟩
      have hEn : E = nxt g t z := by rw [← hE, hF]; rfl
      rw [← hF] at hfb
      rw [← hEn] at hnb
      obtain ⟨hfb1, hfb2⟩ := hfb
      obtain ⟨hnb1, hnb2⟩ := hnb
      have hwr : IntKind.i64.wrap (F + g) = F + g := IntWalk.i64_in _ (by omega)
      have HF := Lib.hid hF
      have HEN := Lib.hid (show E = pos g t f (k + 1) by rw [hEn, HZ.out]; rfl)
      have HPT := Lib.hid (show pos g t f k < t by rw [← HZ.out]; exact hlt)
      have hfl : ∀ w, Calls Try.prog 23 #[.int .i64 z, .int .i64 g] w fun e w' => e = .returned (.int .i64 F) ∧ w = w' := fun w => by rw [hF]; exact floor_any z g w g1 g2 (by omega) (by omega)
      have HFL := Lib.hid hfl
      have HE2 := Lib.hid (show (if t < F + g then t else F + g) = E by rw [← hE]; split <;> omega)
      clear hF hEn hfl hE
      gi_wp2
      refine wpIn_wide.2 ?_
      go_quiet ((go_at_call 23; exact quiet_left (HFL.out _)))
      rw [HE2.out]
      have hbx : Box3 (wr.drewN nq) pf pt pg z t g := HB3.out
      obtain ⟨fn, tmps, assign, body, hy, hR⟩ := HY.out k (wr.drewN nq) (hJd k wr nq HJ.out) (by rw [← HZ.out]; exact hbx) HPT.out
      rw [← HZ.out] at hy hR
      rw [← HEN.out] at hy
      have HR := Lib.hid hR
      have HBX := Lib.hid hbx
      generalize wr.drewN nq = wd at hy HR HBX ⊢
      have hcf : wd.cell? ⟨pf, 0, none⟩ = some (.int .i64 z) := HBX.out.1.cell 0
      clear hR hbx hwr HFL
      gi_wp2
      refine ⟨fun h => by simp [Fence.wide] at h, ?_⟩
      refine HR.out.mono ?_
      rintro e W' (⟨rfl, hJ', hb'⟩ | ⟨rfl, hJx'⟩)
      · have hcf : W'.cell? ⟨pf, 0, none⟩ = some (.int .i64 z) := hb'.1.cell 0
        have hff := hb'.1.frozen 0
        have HJ' := Lib.hid hJ'
        have HB' := Lib.hid hb'
        clear hJ' hb'
        gi_wp2
        have hbn : Box3 (W'.setCell ⟨pf, 0, none⟩ (.int .i64 E)) pf pt pg E t g := ⟨HB'.out.1.set_ 0 _, HB'.out.2.1.far (p := ⟨pf, 0, none⟩) (Ne.symm h1) _, HB'.out.2.2.far (p := ⟨pf, 0, none⟩) (Ne.symm h2) _⟩
        go_roundw
        case rel => exact ⟨k + 1, E, HEN, by omega, by have := ht.2; omega, Lib.hid hbn, Lib.hid (fun i hi => by
          rcases Nat.lt_or_ge i k with h | h
          · exact HI.out i h
          · rw [show i = k by omega]; exact HPT.out), Lib.hid (hJs _ _ _ HJ'.out)⟩
        case measure => rw [atOf_box hbn, atOf_box HB3.out]; omega
      · have HJX := Lib.hid hJx'
        clear hJx'
        gi_wp2
        refine bodyPost_ret (results_none rfl _ _ _) rfl ?_
        exact ⟨⟨_, rfl⟩, .inr ⟨k + 1, fun i hi => by
          rcases Nat.lt_or_ge i k with h | h
          · exact HI.out i h
          · rw [show i = k by omega]; exact HPT.out, HJX.out⟩⟩
    · gi_wp2
      go_end0
      refine ⟨⟨_, rfl⟩, .inl ⟨k, by rw [← HZ.out]; omega, HI.out, HJ.out⟩⟩
end Go.Proofs.Ytmjjlolbdjjepaa
