/- Where a set's stretches begin and end, one behind the other, by a function that hands them on. -/
import Derived.Test.YtohdkidfhohmlaaQ
import Derived.RangeFuncBox
import Derived.RangeFuncLeaves
import Derived.RangeFuncFrom
import Derived.RangeFuncNested
import Derived.RangeFuncBound
import Derived.RangeFuncCalls
import Derived.RangeFuncRecord
import Derived.RangeFuncIn
import Derived.Shelf.Abstract
import Derived.Shelf.RegionOpen
import Derived.WalkKit
import Derived.OwnWalkIn
import Derived.TacticsInMore
import Derived.LoopNIn
import Derived.LoopIn
namespace Go.Proofs.Ytohdkidfhohmlaa
open Go.RowKit Go.Shelf
set_option linter.unusedSimpArgs false
set_option linter.unusedVariables false
attribute [local go_sem] Oper.semAt_some
def endsL (L : List (Int × Int)) : List Int := L.flatMap fun p => [p.1, p.2]
theorem endsL_app (L M : List (Int × Int)) : endsL (L ++ M) = endsL L ++ endsL M := by simp [endsL]
theorem endsL_length (L : List (Int × Int)) : (endsL L).length = L.length * 2 := by
  induction L with
  | nil => rfl
  | cons p L ih => rw [show p :: L = [p] ++ L from rfl, endsL_app, List.length_append, List.length_append, ih]; simp [endsL]; omega
theorem endsL_take (L : List (Int × Int)) (k : Nat) : (endsL L) = endsL (L.take k) ++ endsL (L.drop k) := by rw [← endsL_app, List.take_append_drop]
/-- What a round keeps: all below n₀, and each block of a stretch. -/
def Kps (n₀ : Nat) (W W' : World) : Prop := Below n₀ W W' ∧ ∀ g cs, Blk W g 45 cs → Blk W' g 45 cs
theorem ends_maker (A : Option Addr) (n c : Nat) (w : World) : Calls Try.prog 45 #[.slice A n c] w fun e w' =>
    e = .returned (.func (.func 59) #[] #[.pointer (some ⟨w.heap.size, 0, none⟩)]) ∧ w' = w.alloc (.cells #[.slice A n c] 24) := by
  go_enter Try.func45, Try.ntmps45
  go_wp2
  go_ret
  exact ⟨rfl, rfl⟩
set_option maxRecDepth 100000 in
set_option maxHeartbeats 4000000 in
theorem ends1_in (n : Nat) (hn : 1 ≤ n) (l Bs n₀ len cap : Nat) (A : Option Addr) (L : List (Int × Int)) (hlen : len = L.length) (hl9 : len ≤ 1000000) (w0 : World) (hw0 : w0.heap.size ≤ n₀) (J Jx : List Int → World → Prop)
    (W : World) (hJ : AbidesFrom W.heap.size J)
    (hY : ∀ pre x W, J pre W → pre.length < L.length * 2 → YieldAt Fence.wide (n - 1) Try.prog l #[.int .i64 x] W fun e W' =>
      (e = .returned (.bool true) ∧ J (pre ++ [x]) W' ∧ Kps n₀ W W') ∨ (e = .returned (.bool false) ∧ Jx (pre ++ [x]) W'))
    (hBs : W.cell? ⟨Bs, 0, none⟩ = some (.slice A len cap)) (hrow : Row w0 A (cellsP L)) (hbw : Below n₀ w0 W) (hn0 : n₀ ≤ W.heap.size) (h0 : J [] W) :
    CallsIn Fence.wide n Try.prog 59 #[.func (.yield l) #[] #[], .pointer (some ⟨Bs, 0, none⟩)] W fun e W' => (∃ v, e = .returned v) ∧
      ((∃ ys, ys = endsL L ∧ J ys W') ∨ (∃ pre, pre <+: endsL L ∧ Jx pre W')) := by
  have HZ := Lib.hid hlen
  have HJ := Lib.hid hJ
  have HY := Lib.hid hY
  have HJ0 := Lib.hid h0
  have HN0 := Lib.hid hn0
  have HBW := Lib.hid hbw
  clear hbw
  clear hlen hJ hY h0 hn0
  refine callsIn_of_wp Try.func59 rfl trivial ?_ rfl
  simp only [Try.ntmps59, List.size_toArray, List.length_cons, List.length_nil, Nat.reduceAdd, Nat.reduceSub, Array.replicate_succ, Array.replicate_zero, List.push_toArray, List.append_toArray, List.nil_append, List.cons_append]
  gi_wp2
  gi_loopw [7] (fun i wr => ∃ k : Nat, k ≤ len ∧ i = .int .i64 k ∧ Hid (J (endsL (L.take k)) wr) ∧ Hid (Below n₀ W wr)) (fun i _ => len - (intOf i).toNat)
  case atStart => exact ⟨0, Nat.zero_le _, rfl, HJ0, Lib.hid (Below.refl _ _)⟩
  case round =>
    obtain ⟨k, hk, rfl, HJS, HB⟩ := hrel
    by_cases hlt : k < len
    · have hkz : k < L.length := by have := HZ.out; omega
      have hrw : Row wr A (cellsP L) := hrow.keep hw0 (HBW.out.trans HB.out)
      obtain ⟨b, off, hA', c0, c1⟩ := hrw.at2 hkz
      obtain ⟨p, hp⟩ : ∃ p, p = L[k].1 := ⟨_, rfl⟩
      obtain ⟨y, hy⟩ : ∃ y, y = L[k].2 := ⟨_, rfl⟩
      have HTK := Lib.hid (show endsL (L.take (k + 1)) = endsL (L.take k) ++ [p] ++ [y] by rw [take_snoc L k hkz, endsL_app, hp, hy]; simp [endsL])
      have HTL := Lib.hid (show (endsL (L.take k)).length = k * 2 by rw [endsL_length, List.length_take, Nat.min_eq_left (by omega)])
      have HPF := Lib.hid (show endsL (L.take (k + 1)) <+: endsL L from ⟨endsL (L.drop (k + 1)), (endsL_take L (k + 1)).symm⟩)
      rw [← hp] at c0
      rw [← hy] at c1
      have hk1 : (k : Int) < (len : Int) := by omega
      have hk0 : (0 : Int) ≤ (k : Int) := by omega
      obtain ⟨wb, hwb⟩ : ∃ wb, wb = wr.alloc (.cells #[.int .i64 p, .int .i64 y] 45) := ⟨_, rfl⟩
      have hJb : J (endsL (L.take k)) wb := by
        rw [hwb]; exact HJ.out _ wr _ none HJS.out (World.grownBy_alloc wr _ none) (fun r h => by cases h)
      have HBK := Lib.hid (show Blk wb wr.heap.size 45 #[.int .i64 p, .int .i64 y] by rw [hwb]; exact Blk.new _ _ _)
      have HBB := Lib.hid (show Below n₀ W wb by rw [hwb]; exact HB.out.alloc (Nat.le_trans HN0.out HB.out.size) _)
      obtain ⟨fn, tmps, assign, body, hy1, hR1⟩ := HY.out _ p wb hJb (by rw [HTL.out]; have := HZ.out; omega)
      subst hwb
      have HR1 := Lib.hid hR1
      clear hp hy hrow hrw hJb hR1
      subst hA'
      gi_wp2
      refine HR1.out.mono ?_
      rintro e W1 (⟨rfl, hJ1, hB1, hK1⟩ | ⟨rfl, hJx1⟩)
      · have hbk := hK1 _ _ HBK.out
        have hc1 : W1.cell? ⟨wr.heap.size, 1, none⟩ = some (.int .i64 y) := hbk.cell 1
        obtain ⟨fn2, tmps2, assign2, body2, hy2, hR2⟩ := HY.out _ y W1 hJ1 (by rw [List.length_append, HTL.out]; have := HZ.out; simp; omega)
        have HR2 := Lib.hid hR2
        have HB1 := Lib.hid (show Below n₀ W W1 from HBB.out.trans hB1)
        clear hR2 hB1 hK1 hbk hJ1 hy1
        gi_wp2
        try (refine ⟨(fun h => by simp [Fence.wide] at h), ?_⟩)
        refine HR2.out.mono ?_
        rintro e W2 (⟨rfl, hJ2, hB2, hK2⟩ | ⟨rfl, hJx2⟩)
        · rw [← HTK.out] at hJ2
          have HJ2 := Lib.hid hJ2
          have HB2 := Lib.hid (HB1.out.trans hB2)
          clear hJ2 hB2 hK2 hy2
          gi_wp2
          go_roundw
          case rel => exact ⟨k + 1, by omega, by go_num, HJ2, HB2⟩
          case measure => simp [intOf]; omega
        · rw [← HTK.out] at hJx2
          have HJ2 := Lib.hid hJx2
          clear hJx2 hy2
          gi_wp2
          refine bodyPost_ret (results_none rfl _ _ _) rfl ?_
          exact ⟨⟨_, rfl⟩, .inr ⟨_, HPF.out, HJ2.out⟩⟩
      · have HJ2 := Lib.hid hJx1
        have HPF2 := Lib.hid (show endsL (L.take k) ++ [p] <+: endsL L from List.IsPrefix.trans ⟨[y], HTK.out.symm⟩ HPF.out)
        clear hJx1 hy1
        gi_wp2
        refine ⟨fun _ h => (by cases h), ?_⟩
        gi_wp2
        refine bodyPost_ret (results_none rfl _ _ _) rfl ?_
        exact ⟨⟨_, rfl⟩, .inr ⟨_, HPF2.out, HJ2.out⟩⟩
    · have hkl : k = L.length := by have := HZ.out; omega
      have HF := Lib.hid (show endsL (L.take k) = endsL L by rw [List.take_of_length_le (by omega)])
      clear hkl
      obtain rfl : k = len := by omega
      gi_wp2
      go_end0
      exact ⟨⟨_, rfl⟩, .inl ⟨_, rfl, by rw [← HF.out]; exact HJS.out⟩⟩
theorem ends_stops (n : Nat) (hn : 1 ≤ n) (Bs n₀ len cap : Nat) (A : Option Addr) (L : List (Int × Int)) (hlen : len = L.length) (hl9 : len ≤ 1000000) (w0 : World) (hw0 : w0.heap.size ≤ n₀) (w : World)
    (hBs : w.cell? ⟨Bs, 0, none⟩ = some (.slice A len cap)) (hrow : Row w0 A (cellsP L)) (hbw : Below n₀ w0 w) (hn0 : n₀ ≤ w.heap.size) (hB0 : Bs < w.heap.size) :
    SeqStopsK Fence.wide n Try.prog 59 #[.pointer (some ⟨Bs, 0, none⟩)] (fun x : Int => #[Value.int .i64 x]) (Kps n₀) (fun ys => ys = endsL L) (fun pre => pre <+: endsL L) (L.length * 2) w := fun l J Jx W hW hJ _ hY h0 => by
  refine (ends1_in n hn l Bs n₀ len cap A L hlen hl9 w0 hw0 J Jx W hJ hY ?_ hrow (hbw.trans (hW.mono hn0)) (Nat.le_trans hn0 hW.size) h0)
  exact (hW.cell (p := ⟨Bs, 0, none⟩) hB0).trans hBs
end Go.Proofs.Ytohdkidfhohmlaa
