/- An agg's size (both); a copy of a list of numbers; whether two are one. -/
import Derived.Test.YtmmeekmiildliaaGreatDoorIF
import Derived.Test.YtmmeekmiildliaaGreatDoorRA
import Derived.BigQuiet
namespace Go.Proofs.YtmmeekmiildliaaGreatDoor
open Go.RowKit
set_option linter.unusedSimpArgs false
set_option linter.unusedVariables false
/-- A row of numbers. -/
abbrev intsV (L : List Int) : List Value := L.map (Value.int .i64)
theorem one_intsV (L : List Int) : ∀ u ∈ intsV L, u.oneCell' = true := by
  intro u hu
  obtain ⟨z, _, rfl⟩ := List.mem_map.1 hu
  rfl
/-- How large a number is. -/
def szI (x : Int) : Int := if x < 0 then -x else x
theorem szI_bd {x : Int} (h : ¬ greatZ x) : 0 ≤ szI x ∧ szI x ≤ 4611686018427387904 := by
  unfold greatZ at h; unfold szI; split <;> omega
theorem infoI : (Tryz.prog.info? 3).map (fun i => (i.zero, i.size, i.bytes)) = some (some (.int .i64 0), 1, 8) := by kernel_rfl
theorem size_any (x : Int) (h : ¬ greatZ x) (w : World) : Calls Tryz.prog 30 #[.int .i64 x] w fun e w' => e = .returned (.int .i64 (szI x)) ∧ w' = w := by
  unfold greatZ at h
  have h1 : -4611686018427387904 ≤ x := by omega
  have h2 : x ≤ 4611686018427387904 := by omega
  by_cases h0 : x < 0
  · have HS := Lib.hid (show szI x = -x by unfold szI; rw [if_pos h0])
    have jw : IntKind.i64.wrap (-x) = -x := IntWalk.i64_in _ (by omega)
    clear h
    go_enter Tryz.func30, Tryz.ntmps30
    go_wp2_with fail
    go_ret
    exact ⟨by rw [HS.out]; exact congrArg (fun z => Ending.returned (Value.int .i64 z)) (show min (max x (-x)) 4611686018427387904 = -x by omega), rfl⟩
  · have HS := Lib.hid (show szI x = x by unfold szI; rw [if_neg h0])
    have jw : IntKind.i64.wrap (-x) = -x := IntWalk.i64_in _ (by omega)
    clear h
    go_enter Tryz.func30, Tryz.ntmps30
    go_wp2_with fail
    go_ret
    exact ⟨by rw [HS.out]; exact congrArg (fun z => Ending.returned (Value.int .i64 z)) (show min (max x (-x)) 4611686018427387904 = x by omega), rfl⟩
theorem refsize_any (x : Int) (h : ¬ greatZ x) (w : World) : Calls Tryz.prog 32 #[.int .i64 x] w fun e w' => e = .returned (.int .i64 (szI x)) ∧ w' = w := by
  unfold greatZ at h
  have h1 : -4611686018427387904 ≤ x := by omega
  have h2 : x ≤ 4611686018427387904 := by omega
  by_cases h0 : x < 0
  · have HS := Lib.hid (show szI x = -x by unfold szI; rw [if_pos h0])
    have jw : IntKind.i64.wrap (-x) = -x := IntWalk.i64_in _ (by omega)
    clear h
    go_enter Tryz.func32, Tryz.ntmps32
    go_wp2_with fail
    go_ret
    exact ⟨by rw [HS.out]; exact congrArg (fun z => Ending.returned (Value.int .i64 z)) (show max x (-x) = -x by omega), rfl⟩
  · have HS := Lib.hid (show szI x = x by unfold szI; rw [if_neg h0])
    have jw : IntKind.i64.wrap (-x) = -x := IntWalk.i64_in _ (by omega)
    clear h
    go_enter Tryz.func32, Tryz.ntmps32
    go_wp2_with fail
    go_ret
    exact ⟨by rw [HS.out]; exact congrArg (fun z => Ending.returned (Value.int .i64 z)) (show max x (-x) = x by omega), rfl⟩
theorem eql_nilI (A : Option Addr) (n c : Nat) (w : World) : (binOp .eql 25 (.slice A n c) (.slice none 0 0)).run Tryz.prog w = .ok (.bool A.isNone) w := by
  simp only [binOp]
  rw [Sem.run_bind, run_equal_slice_nil w 25 3 A n c Tryz.underlying25]; rfl
set_option maxRecDepth 100000 in
set_option maxHeartbeats 8000000 in
theorem cloneI_any (A : Option Addr) (n c : Nat) (xs : List Value) (w : World) (hA : Row w A xs) (hx : xs.length = n * 1) (h1 : ∀ u ∈ xs, u.oneCell' = true) (hnc : n ≤ c) (ha : A = none → c = 0) (hs : n * 8 ≤ 140737488355328) :
    Calls Tryz.prog 29 #[.slice A n c] w fun e w' => ∃ D k, e = .returned (.slice D n k) ∧ w'.ownsRow w.heap.size 3 1 (.slice D n k) n xs ∧ Below w.heap.size w w' := by
  have HA := Lib.hid hA
  have HX := Lib.hid hx
  have HN := Lib.hid hnc
  have H1 := Lib.hid h1
  have HS := Lib.hid hs
  clear hA hx hnc h1 hs
  cases A with
  | none =>
    have e1 : c = 0 := ha rfl
    have e2 : n = 0 := by have := HN.out; omega
    subst e1 e2
    have e3 : xs = [] := List.eq_nil_of_length_eq_zero (by have := HX.out; omega)
    subst e3
    clear ha
    have hq := eql_nilI none 0 0
    go_enter Tryz.func29, Tryz.ntmps29
    go_wp2_with fail
    go_ret
    exact ⟨_, _, rfl, World.ownsRow_nil _ _ _ _, Below.refl _ _⟩
  | some a =>
    clear ha
    obtain ⟨i0, hi0, hz0, hz1, hz2⟩ := info_parts infoI
    have HM : Hid (n ≤ maxLen) := Lib.hid (by have := HS.out; unfold maxLen; omega)
    have hq := eql_nilI (some a) n c
    go_enter Tryz.func29, Tryz.ntmps29
    go_wp2_with (at_builtin; refine wpList_append_own_at _ rfl _ _ 25 rfl w.heap.size 3 i0 (.int .i64 0) 1 8 Tryz.underlying25 hi0 hz0 hz1 hz2 rfl (by decide) _ 0 [] rfl (own_empty (Nat.le_refl _)) a n c xs rfl HX.out ((HA.out.keep (Nat.le_refl _) (bpush (Below.refl _ _) _)).at') H1.out (by rw [Nat.zero_add]; exact HM.out) (by rw [Nat.zero_add]; have := HS.out; omega) (by simp) ?_; intro v5 w5 ho5 hg5 _ _)
    have hb5 : Below w.heap.size w w5 := ⟨hg5.os, hg5.tape, hg5.output, by have := hg5.size; simp at this; omega, fun i hi => by
      rw [hg5.block i (by simp; omega) (by intro e; have e2 : i = w.heap.size := Option.some.inj e; omega)]
      exact Below.heap_alloc _ _ _ hi⟩
    rw [Nat.zero_add, List.nil_append] at ho5
    have hv : ∃ D k, v5 = .slice D n k := by
      rcases ho5.2 with ⟨rfl, h0⟩ | ⟨g, cap, cur, rfl, _⟩
      · exact ⟨none, 0, by rw [h0]⟩
      · exact ⟨_, _, rfl⟩
    obtain ⟨D, k, rfl⟩ := hv
    have HO5 := Lib.hid ho5
    have HB5 := Lib.hid hb5
    clear ho5 hg5 hb5
    go_wp2_with fail
    go_ret
    exact ⟨_, _, rfl, HO5.out, HB5.out⟩
set_option maxRecDepth 100000 in
set_option maxHeartbeats 4000000 in
theorem refints_any (A B : Option Addr) (na ca nb cb : Nat) (La Lb : List Int) (w : World) (hA : Row w A (La.map (Value.int .i64))) (hB : Row w B (Lb.map (Value.int .i64))) (hna : na = La.length) (hnb : nb = Lb.length) (hn : na ≤ 1000000) (r : Bool) (hr : r = decide (La = Lb)) :
    Calls Tryz.prog 33 #[.slice A na ca, .slice B nb cb] w fun e w' => e = .returned (.bool r) ∧ ∃ m, w' = w.drewN m := by
  have HR := Lib.hid hr
  have HA := Lib.hid hA
  have HB := Lib.hid hB
  have HNA := Lib.hid hna
  have HNB := Lib.hid hnb
  clear hr hA hB hna hnb
  by_cases hne : na = nb
  · subst hne
    go_enter Tryz.func33, Tryz.ntmps33
    go_wp2_with fail
    go_loopw [5] (fun i wr => ∃ k : Nat, k ≤ na ∧ i = .int .i64 k ∧ Hid (La.take k = Lb.take k) ∧ Hid (∃ m, wr = w.drewN m)) (fun i _ => na - (intOf i).toNat)
    case atStart => exact ⟨0, by omega, rfl, Lib.hid (by simp), Lib.hid ⟨0, rfl⟩⟩
    case round =>
      obtain ⟨k, hk, rfl, HE, HM⟩ := hrel
      obtain ⟨m, hm⟩ := HM.out
      by_cases hlt : k < na
      · have hka : k < La.length := by have := HNA.out; omega
        have hkb : k < Lb.length := by have := HNB.out; omega
        obtain ⟨ba, oa, rfl, c0⟩ := HA.out.cell hka
        obtain ⟨bb, ob, rfl, c1⟩ := HB.out.cell hkb
        obtain ⟨x, hx⟩ : ∃ x, x = La[k] := ⟨_, rfl⟩
        obtain ⟨y, hy⟩ : ∃ y, y = Lb[k] := ⟨_, rfl⟩
        rw [← hx] at c0
        rw [← hy] at c1
        have c3 : wr.cell? ⟨ba, oa + k, none⟩ = some (.int .i64 x) := by rw [hm]; simpa using c0
        have c4 : wr.cell? ⟨bb, ob + k, none⟩ = some (.int .i64 y) := by rw [hm]; simpa using c1
        have HX := Lib.hid hx
        have HY := Lib.hid hy
        have HM2 := Lib.hid (fun q => ⟨m + q, by rw [hm, World.drewN_drewN]⟩ : ∀ q, ∃ m, wr.drewN q = w.drewN m)
        have hk0 : (0 : Int) ≤ (k : Int) := by omega
        have hki : (k : Int) < (na : Int) := by omega
        clear hx hy c0 c1 hm HM
        by_cases e : x = y
        · have HE2 := Lib.hid (show La.take (k + 1) = Lb.take (k + 1) by
            rw [take_snoc _ _ hka, take_snoc _ _ hkb, HE.out, ← HX.out, ← HY.out, e])
          subst e
          have hd : (x != x) = false := by simp
          clear HE HX HY
          go_wp2_with fail
          go_quiet (fail)
          go_wp2_with fail
          go_roundw
          case rel => exact ⟨k + 1, by omega, by go_num, HE2, Lib.hid (HM2.out _)⟩
          case measure => simp [intOf]; omega
        · obtain rfl : r = false := by
            rw [HR.out]
            refine decide_eq_false (fun h => e ?_)
            rw [HX.out, HY.out]; simp only [h]
          have hd : (x != y) = true := by simpa using e
          have hd2 : (x == y) = false := by simpa using e
          clear HE HR HX HY
          go_wp2_with fail
          go_quiet (fail)
          go_wp2_with fail
          go_ret
          exact ⟨rfl, HM2.out _⟩
      · have hki : ¬ (k : Int) < (na : Int) := by omega
        obtain rfl : r = true := by
          rw [HR.out]
          refine decide_eq_true ?_
          have := HE.out
          rwa [List.take_of_length_le (by have := HNA.out; omega), List.take_of_length_le (by have := HNB.out; omega)] at this
        have HM2 := HM
        clear HR HE hm
        go_wp2_with fail
        go_ret
        exact ⟨rfl, HM2.out⟩
  · obtain rfl : r = false := by
      rw [HR.out]
      exact decide_eq_false (fun h => hne (by rw [HNA.out, HNB.out, h]))
    have hd : ((na : Int) == (nb : Int)) = false := by simp; omega
    have hd2 : ((na : Int) != (nb : Int)) = true := by simp; omega
    clear HR
    go_enter Tryz.func33, Tryz.ntmps33
    go_wp2_with fail
    go_ret
    exact ⟨rfl, 0, rfl⟩
end Go.Proofs.YtmmeekmiildliaaGreatDoor
