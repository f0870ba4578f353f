/- A list's steps, one behind the other, by a function that hands them on. -/
import Derived.Test.YtedldajlioeioaaPA
import Derived.Test.YtedldajlioeioaaNU
import Derived.RangeFuncBox
import Derived.RangeFuncLeaves
import Derived.RangeFuncFrom
import Derived.RangeFuncNested
import Derived.RangeFuncBound
import Derived.RangeFuncCalls
import Derived.RangeFuncRecord
import Derived.RangeFuncIn
import Derived.Shelf.Abstract
import Derived.Shelf.RegionOpen
import Derived.WalkKit
import Derived.OwnWalkIn
import Derived.TacticsInMore
import Derived.LoopNIn
import Derived.LoopIn
namespace Go.Proofs.Ytedldajlioeioaa
open Go.RowKit Go.Shelf
set_option linter.unusedSimpArgs false
set_option linter.unusedVariables false
attribute [local go_sem] Oper.semAt_some
/-- What a round keeps: all below n₀, and the list's own box. -/
def KB (n₀ Bs : Nat) (W W' : World) : Prop := Below n₀ W W' ∧ W'.heap[Bs]? = W.heap[Bs]?
theorem KB.trans {n₀ Bs : Nat} {A B C : World} (h : KB n₀ Bs A B) (k : KB n₀ Bs B C) : KB n₀ Bs A C := ⟨h.1.trans k.1, k.2.trans h.2⟩
theorem KB.cell {n₀ Bs : Nat} {A B : World} {v : Value} (h : KB n₀ Bs A B) (k : A.cell? ⟨Bs, 0, none⟩ = some v) : B.cell? ⟨Bs, 0, none⟩ = some v := by
  unfold World.cell? at k ⊢
  rw [show B.heap[(⟨Bs, 0, none⟩ : Addr).block]? = A.heap[(⟨Bs, 0, none⟩ : Addr).block]? from h.2]; exact k
/-- What a round leaves, whichever it answers. -/
def StepR (J Jx : List Int → World → Prop) (n₀ Bs : Nat) (W : World) (xs : List Int) (r : Bool) (W' : World) : Prop := (r = true ∧ J xs W' ∧ KB n₀ Bs W W') ∨ (r = false ∧ Jx xs W')
theorem steps_maker (A : Option Addr) (n c : Nat) (w : World) : Calls Try.prog 35 #[.slice A n c] w fun e w' =>
    e = .returned (.func (.func 47) #[] #[.pointer (some ⟨w.heap.size, 0, none⟩)]) ∧ w' = w.alloc (.cells #[.slice A n c] 22) := by
  go_enter Try.func35, Try.ntmps35
  go_wp2
  go_ret
  exact ⟨rfl, rfl⟩
set_option maxRecDepth 100000 in
set_option maxHeartbeats 4000000 in
theorem steps1_in (n : Nat) (hn : 1 ≤ n) (l Bs n₀ len cap : Nat) (A : Option Addr) (L : List Int) (hlen : len = L.length) (hl9 : len ≤ 1000000) (hL : ints L) (w0 : World) (hw0 : w0.heap.size ≤ n₀) (J Jx : List Int → World → Prop)
    (W : World) (hJ : AbidesFrom W.heap.size J)
    (hY : ∀ pre x W, J pre W → pre.length < L.length - 1 → YieldAt Fence.wide (n - 1) Try.prog l #[.int .i64 x] W fun e W' =>
      (e = .returned (.bool true) ∧ J (pre ++ [x]) W' ∧ KB n₀ Bs W W') ∨ (e = .returned (.bool false) ∧ Jx (pre ++ [x]) W'))
    (hBs : W.cell? ⟨Bs, 0, none⟩ = some (.slice A len cap)) (hrow : Row w0 A (L.map (Value.int .i64))) (hbw : Below n₀ w0 W) (hn0 : n₀ ≤ W.heap.size) (h0 : J [] W) :
    CallsIn Fence.wide n Try.prog 47 #[.func (.yield l) #[] #[], .pointer (some ⟨Bs, 0, none⟩)] W fun e W' => (∃ v, e = .returned v) ∧
      ((∃ ys, ys = stepsZ L ∧ J ys W') ∨ (∃ pre, pre <+: stepsZ L ∧ Jx pre W')) := by
  have HZ := Lib.hid hlen
  have HJ := Lib.hid hJ
  have HY := Lib.hid hY
  have HJ0 := Lib.hid h0
  have HN0 := Lib.hid hn0
  have HBW := Lib.hid hbw
  have HIN := Lib.hid hL
  clear hbw
  clear hlen hJ hY h0 hn0 hL
  refine callsIn_of_wp Try.func47 rfl trivial ?_ rfl
  simp only [Try.ntmps47, List.size_toArray, List.length_cons, List.length_nil, Nat.reduceAdd, Nat.reduceSub, Array.replicate_succ, Array.replicate_zero, List.push_toArray, List.append_toArray, List.nil_append, List.cons_append]
  gi_wp2
  gi_loopw [3] (fun i wr => ∃ k : Nat, k ≤ len - 1 ∧ i = .int .i64 (k + 1 : Nat) ∧ Hid (J ((stepsZ L).take k) wr) ∧ Hid (KB n₀ Bs W wr)) (fun i _ => len - (intOf i).toNat)
  case atStart => exact ⟨0, Nat.zero_le _, rfl, HJ0, Lib.hid ⟨Below.refl _ _, rfl⟩⟩
  case round =>
    obtain ⟨k, hk, rfl, HJS, HB⟩ := hrel
    have hcb : wr.cell? ⟨Bs, 0, none⟩ = some (.slice A len cap) := HB.out.cell hBs
    obtain ⟨k1, hk1⟩ : ∃ k1, k1 = k + 1 := ⟨_, rfl⟩
    rw [← hk1]
    by_cases hlt : k1 < len
    · have hkz : k + 1 < L.length := by have := HZ.out; omega
      have hrw : Row wr A (L.map (Value.int .i64)) := hrow.keep hw0 (HBW.out.trans HB.out.1)
      obtain ⟨b, off, hA', c0⟩ := hrw.cell (i := k) (by omega)
      obtain ⟨b2, off2, hA2, c1⟩ := hrw.cell hkz
      rw [hA'] at hA2
      obtain ⟨rfl, rfl⟩ : b = b2 ∧ off = off2 := by cases hA2; exact ⟨rfl, rfl⟩
      obtain ⟨p, hp⟩ : ∃ p, L[k]? = some p := ⟨_, List.getElem?_eq_getElem (by omega)⟩
      obtain ⟨y, hy⟩ : ∃ y, L[k + 1]? = some y := ⟨_, List.getElem?_eq_getElem hkz⟩
      obtain ⟨s, hs⟩ : ∃ s, s = wrap64 (y - p) := ⟨_, rfl⟩
      have hk2 : (k1 : Int) < (len : Int) := by omega
      have hk0 : (0 : Int) ≤ (k1 : Int) := by omega
      have hkm : IntKind.i64.wrap ((k1 : Int) - 1) = (k : Int) := by rw [IntWalk.i64_in _ (by omega)]; omega
      have hks : (k : Int) < (len : Int) := by omega
      have hks2 : k < len := by omega
      have hkt : (k : Int).toNat = k := by omega
      have HK1 := Lib.hid hk1
      have HS := Lib.hid hs
      have HP := Lib.hid hp
      have HYY := Lib.hid hy
      rw [show L[k] = p from Option.some.inj ((List.getElem?_eq_getElem (by omega)).symm.trans hp)] at c0
      rw [show L[k + 1] = y from Option.some.inj ((List.getElem?_eq_getElem hkz).symm.trans hy), ← hk1] at c1
      have hws : IntKind.i64.wrap (y - p) = s := by rw [hs]; exact IntWalk.i64_left _
      clear hrw hp hy hs hk1 hA2
      subst hA'
      have HTK := Lib.hid (show (stepsZ L).take (k + 1) = (stepsZ L).take k ++ [s] by
        have hk3 : k < (stepsZ L).length := by rw [steps_length]; have := HZ.out; omega
        rw [take_snoc _ k hk3]
        congr 2
        have h1 := steps_get L k hkz
        rw [List.getElem?_eq_getElem hk3] at h1
        rw [Option.some.inj h1, HS.out]
        congr 2
        · exact Option.some.inj ((List.getElem?_eq_getElem hkz).symm.trans HYY.out)
        · exact Option.some.inj ((List.getElem?_eq_getElem (by omega)).symm.trans HP.out))
      have hJd : J ((stepsZ L).take k) wr.drew := HJ.out _ wr _ none HJS.out ⟨rfl, rfl, rfl, Nat.le_refl _, fun _ _ _ => rfl⟩ (fun r h => by cases h)
      obtain ⟨fn, tmps, assign, body, hy1, hR1⟩ := HY.out _ s wr.drew hJd (by rw [List.length_take, steps_length]; have := HZ.out; omega)
      have hR2 : RoundIn Fence.wide (n - 1) Try.prog l fn tmps assign body wr.drew fun e W' => ∃ r, e = .returned (.bool r) ∧ Hid (StepR J Jx n₀ Bs wr ((stepsZ L).take (k + 1)) r W') := hR1.mono fun e W' h => by
        rw [HTK.out]
        rcases h with ⟨rfl, h1, h2⟩ | ⟨rfl, h1⟩
        · exact ⟨true, rfl, Lib.hid (.inl ⟨rfl, h1, ⟨⟨h2.1.os, h2.1.tape, h2.1.output, h2.1.size, h2.1.block⟩, h2.2⟩⟩)⟩
        · exact ⟨false, rfl, Lib.hid (.inr ⟨rfl, h1⟩)⟩
      have HR := Lib.hid hR2
      have HPF := Lib.hid (show (stepsZ L).take (k + 1) <+: stepsZ L from List.take_prefix _ _)
      clear hR1 hR2 hJd
      gi_wp2
      gi_region_with (first | (refine ⟨(fun h => by simp [Fence.wide] at h), ?_⟩; refine HR.out.mono ?_; rintro e W1 ⟨r, rfl, hr⟩) | (refine HR.out.mono ?_; rintro e W1 ⟨r, rfl, hr⟩))
      all_goals (
        rcases r with _ | _
        · gi_wp2
          refine bodyPost_ret (results_none rfl _ _ _) rfl ?_
          rcases hr.out with ⟨h, _⟩ | ⟨_, h⟩
          · cases h
          · exact ⟨⟨_, rfl⟩, .inr ⟨_, HPF.out, h⟩⟩
        · have hjb : J ((stepsZ L).take (k + 1)) W1 ∧ KB n₀ Bs wr W1 := by
            rcases hr.out with ⟨_, h1, h2⟩ | ⟨h, _⟩
            · exact ⟨h1, h2⟩
            · cases h
          have HJ2 := Lib.hid hjb.1
          have HB2 := Lib.hid (HB.out.trans hjb.2)
          clear hjb hr hkm hws c0 c1 hcb hy1 hkt
          gi_wp2
          go_roundw
          case rel => exact ⟨k + 1, by have := HK1.out; omega, by rw [← HK1.out]; go_num, HJ2, HB2⟩
          case measure => simp [intOf]; omega)
    · have hge : ¬ (k1 : Int) < (len : Int) := by omega
      have HF := Lib.hid (show (stepsZ L).take k = stepsZ L by rw [List.take_of_length_le (by rw [steps_length]; have := HZ.out; omega)])
      clear hk1
      gi_wp2
      go_end0
      first | exact ⟨⟨_, rfl⟩, .inl ⟨_, rfl, by rw [← HF.out]; exact HJS.out⟩⟩ | (have h9 := HJS.out; rw [HF.out] at h9; exact ⟨⟨_, rfl⟩, .inl h9⟩)
theorem steps_stops (n : Nat) (hn : 1 ≤ n) (Bs n₀ len cap : Nat) (A : Option Addr) (L : List Int) (hlen : len = L.length) (hl9 : len ≤ 1000000) (hL : ints L) (w0 : World) (hw0 : w0.heap.size ≤ n₀) (w : World)
    (hBs : w.cell? ⟨Bs, 0, none⟩ = some (.slice A len cap)) (hrow : Row w0 A (L.map (Value.int .i64))) (hbw : Below n₀ w0 w) (hn0 : n₀ ≤ w.heap.size) (hB0 : Bs < w.heap.size) :
    SeqStopsK Fence.wide n Try.prog 47 #[.pointer (some ⟨Bs, 0, none⟩)] (fun x : Int => #[Value.int .i64 x]) (KB n₀ Bs) (fun ys => ys = stepsZ L) (fun pre => pre <+: stepsZ L) (L.length - 1) w := fun l J Jx W hW hJ _ hY h0 => by
  refine (steps1_in n hn l Bs n₀ len cap A L hlen hl9 hL w0 hw0 J Jx W hJ hY ?_ hrow (hbw.trans (hW.mono hn0)) (Nat.le_trans hn0 hW.size) h0)
  exact (hW.cell (p := ⟨Bs, 0, none⟩) hB0).trans hBs
end Go.Proofs.Ytedldajlioeioaa
