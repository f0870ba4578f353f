/- Whether bytes are alike, and lists of numbers; whether a list is sorted. -/
import Derived.Test.YtedldajlioeioaaPG
namespace Go.Proofs.Ytedldajlioeioaa
open Go.RowKit
set_option linter.unusedSimpArgs false
set_option linter.unusedVariables false
theorem str_ne {a b : ByteArray} (h : a ≠ b) : (a.toList == b.toList) = false := by
  rw [ByteArray.toList_eq, ByteArray.toList_eq, beq_eq_false_iff_ne]
  exact fun e => h (by cases a; cases b; congr 1; exact Array.toList_inj.1 e)
theorem equal_any (A B : Option Addr) (na ca nb cb : Nat) (X Y : List Int) (w : World) (hA : Row w A (X.map (Value.int .u8))) (hB : Row w B (Y.map (Value.int .u8))) (ha : na = X.length) (hb : nb = Y.length) (bX : bytes X) (bY : bytes Y) (r : Bool) (hr : r = decide (X = Y)) :
    Calls Try.prog 27 #[.slice A na ca, .slice B nb cb] w fun e w' => e = .returned (.bool r) ∧ w = w' := by
  have v1 := conv_any (c := ca) hA ha
  have v2 := conv_any (c := cb) hB hb
  obtain ⟨q1, hq1⟩ : ∃ q, q = strOfNums X := ⟨_, rfl⟩
  obtain ⟨q2, hq2⟩ : ∃ q, q = strOfNums Y := ⟨_, rfl⟩
  have HQ := Lib.hid (show q1 = q2 ↔ X = Y by
    rw [hq1, hq2]
    exact ⟨strOf_inj bX bY, fun h => by rw [h]⟩)
  rw [← hq1] at v1
  rw [← hq2] at v2
  clear hA hB ha hb bX bY hq1 hq2
  by_cases e : q1 = q2
  · obtain rfl : r = true := by rw [hr]; exact decide_eq_true (HQ.out.1 e)
    subst e
    clear HQ hr
    go_enter Try.func27, Try.ntmps27
    go_wp2_with fail
    go_ret
    exact ⟨by first | rfl | simp, rfl⟩
  · obtain rfl : r = false := by rw [hr]; exact decide_eq_false (fun h => e (HQ.out.2 h))
    have tt := str_ne e
    clear HQ hr e
    go_enter Try.func27, Try.ntmps27
    go_wp2_with fail
    go_ret
    exact ⟨by first | rfl | (simp [tt]; done) | rw [tt], rfl⟩
theorem nan_any (x : Int) (w : World) : Calls Try.prog 49 #[.int .i64 x] w fun e w' => e = .returned (.bool false) ∧ w = w' := by
  go_enter Try.func49, Try.ntmps49
  go_wp2_with fail
  go_ret
  exact ⟨by first | rfl | simp, rfl⟩
theorem less_any (x y : Int) (w : World) (r : Bool) (hr : r = decide (x < y)) : Calls Try.prog 40 #[.int .i64 x, .int .i64 y] w fun e w' => e = .returned (.bool r) ∧ w = w' := by
  by_cases h : x < y
  · obtain rfl : r = true := by rw [hr]; exact decide_eq_true h
    clear hr
    go_enter Try.func40, Try.ntmps40
    go_wp2_with ((with_reducible refine (nan_any x _).mono ?_); rintro e w' ⟨rfl, rfl⟩)
    go_ret
    exact ⟨by first | rfl | (simp; omega), rfl⟩
  · obtain rfl : r = false := by rw [hr]; exact decide_eq_false h
    clear hr
    go_enter Try.func40, Try.ntmps40
    go_wp2_with ((with_reducible refine (nan_any x _).mono ?_); rintro e w' ⟨rfl, rfl⟩)
    go_ret
    exact ⟨by first | rfl | (simp; omega), rfl⟩
set_option maxRecDepth 100000 in
set_option maxHeartbeats 4000000 in
theorem ints_any (A B : Option Addr) (na ca nb cb : Nat) (La Lb : List Int) (w : World) (hA : Row w A (La.map (Value.int .i64))) (hB : Row w B (Lb.map (Value.int .i64))) (hna : na = La.length) (hnb : nb = Lb.length) (hn : na ≤ 1000000) (r : Bool) (hr : r = decide (La = Lb)) :
    Calls Try.prog 14 #[.slice A na ca, .slice B nb cb] w fun e w' => e = .returned (.bool r) ∧ ∃ m, w' = w.drewN m := by
  have HR := Lib.hid hr
  have HA := Lib.hid hA
  have HB := Lib.hid hB
  have HNA := Lib.hid hna
  have HNB := Lib.hid hnb
  clear hr hA hB hna hnb
  by_cases hne : na = nb
  · subst hne
    go_enter Try.func14, Try.ntmps14
    go_wp2_with fail
    go_loopw [5] (fun i wr => ∃ k : Nat, k ≤ na ∧ i = .int .i64 k ∧ Hid (La.take k = Lb.take k) ∧ Hid (∃ m, wr = w.drewN m)) (fun i _ => na - (intOf i).toNat)
    case atStart => exact ⟨0, by omega, rfl, Lib.hid (by simp), Lib.hid ⟨0, rfl⟩⟩
    case round =>
      obtain ⟨k, hk, rfl, HE, HM⟩ := hrel
      obtain ⟨m, hm⟩ := HM.out
      by_cases hlt : k < na
      · have hka : k < La.length := by have := HNA.out; omega
        have hkb : k < Lb.length := by have := HNB.out; omega
        obtain ⟨ba, oa, rfl, c0⟩ := HA.out.cell hka
        obtain ⟨bb, ob, rfl, c1⟩ := HB.out.cell hkb
        obtain ⟨x, hx⟩ : ∃ x, x = La[k] := ⟨_, rfl⟩
        obtain ⟨y, hy⟩ : ∃ y, y = Lb[k] := ⟨_, rfl⟩
        rw [← hx] at c0
        rw [← hy] at c1
        have c3 : wr.cell? ⟨ba, oa + k, none⟩ = some (.int .i64 x) := by rw [hm]; simpa using c0
        have c4 : wr.cell? ⟨bb, ob + k, none⟩ = some (.int .i64 y) := by rw [hm]; simpa using c1
        have HX := Lib.hid hx
        have HY := Lib.hid hy
        have HM2 := Lib.hid (fun q => ⟨m + q, by rw [hm, World.drewN_drewN]⟩ : ∀ q, ∃ m, wr.drewN q = w.drewN m)
        have hk0 : (0 : Int) ≤ (k : Int) := by omega
        have hki : (k : Int) < (na : Int) := by omega
        clear hx hy c0 c1 hm HM
        by_cases e : x = y
        · have HE2 := Lib.hid (show La.take (k + 1) = Lb.take (k + 1) by
            rw [take_snoc _ _ hka, take_snoc _ _ hkb, HE.out, ← HX.out, ← HY.out, e])
          subst e
          have hd : (x != x) = false := by simp
          clear HE HX HY
          go_wp2_with fail
          go_quiet (fail)
          go_wp2_with fail
          go_roundw
          case rel => exact ⟨k + 1, by omega, by go_num, HE2, Lib.hid (HM2.out _)⟩
          case measure => simp [intOf]; omega
        · obtain rfl : r = false := by
            rw [HR.out]
            refine decide_eq_false (fun h => e ?_)
            rw [HX.out, HY.out]; simp only [h]
          have hd : (x != y) = true := by simpa using e
          have hd2 : (x == y) = false := by simpa using e
          clear HE HR HX HY
          go_wp2_with fail
          go_quiet (fail)
          go_wp2_with fail
          go_ret
          exact ⟨rfl, HM2.out _⟩
      · have hki : ¬ (k : Int) < (na : Int) := by omega
        obtain rfl : r = true := by
          rw [HR.out]
          refine decide_eq_true ?_
          have := HE.out
          rwa [List.take_of_length_le (by have := HNA.out; omega), List.take_of_length_le (by have := HNB.out; omega)] at this
        have HM2 := HM
        clear HR HE hm
        go_wp2_with fail
        go_ret
        exact ⟨rfl, HM2.out⟩
  · obtain rfl : r = false := by
      rw [HR.out]
      exact decide_eq_false (fun h => hne (by rw [HNA.out, HNB.out, h]))
    have hd : ((na : Int) == (nb : Int)) = false := by simp; omega
    have hd2 : ((na : Int) != (nb : Int)) = true := by simp; omega
    clear HR
    go_enter Try.func14, Try.ntmps14
    go_wp2_with fail
    go_ret
    exact ⟨rfl, 0, rfl⟩
set_option maxRecDepth 100000 in
set_option maxHeartbeats 4000000 in
theorem issorted_any (A : Option Addr) (n c : Nat) (L : List Int) (w : World) (hA : Row w A (L.map (Value.int .i64))) (hz : n = L.length) (hn : n ≤ 1000000) (r : Bool) (hr : r = risesZ L) :
    Calls Try.prog 24 #[.slice A n c] w fun e w' => e = .returned (.bool r) ∧ ∃ m, w' = w.drewN m := by
  have HR := Lib.hid (show r = true ↔ ∀ (i : Nat) (h : i + 1 < L.length), L[i] ≤ L[i + 1] by rw [hr]; exact rises_iff L)
  have HA := Lib.hid hA
  have HZ := Lib.hid hz
  have hw0 : IntKind.i64.wrap ((n : Int) - 1) = (n : Int) - 1 := IntWalk.i64_in _ (by omega)
  clear hr hA hz
  go_enter Try.func24, Try.ntmps24
  go_wp2_with fail
  go_loopw [3] (fun i wr => ∃ k : Int, -1 ≤ k ∧ k ≤ (n : Int) - 1 ∧ i = .int .i64 k ∧ Hid (∀ (i : Nat) (h : i + 1 < L.length), k ≤ (i : Int) → L[i] ≤ L[i + 1]) ∧ Hid (∃ m, wr = w.drewN m)) (fun i _ => (intOf i + 1).toNat)
  case atStart => exact ⟨(n : Int) - 1, by omega, by omega, rfl, Lib.hid (fun i h h2 => by have := HZ.out; omega), Lib.hid ⟨0, rfl⟩⟩
  case round =>
    obtain ⟨k, hk1, hk2, rfl, HE, HM⟩ := hrel
    obtain ⟨m, hm⟩ := HM.out
    by_cases hlt : 0 < k
    · obtain ⟨j, rfl⟩ : ∃ j : Nat, k = (j : Int) + 1 := ⟨(k - 1).toNat, by omega⟩
      have hj1 : j + 1 < L.length := by have := HZ.out; omega
      obtain ⟨ba, oa, rfl, c0⟩ := HA.out.cell (i := j) (by omega)
      obtain ⟨bb, ob, e2, c1⟩ := HA.out.cell hj1
      obtain ⟨rfl, rfl⟩ : ba = bb ∧ oa = ob := by cases e2; exact ⟨rfl, rfl⟩
      obtain ⟨x, hx⟩ : ∃ x, x = L[j] := ⟨_, rfl⟩
      obtain ⟨y, hy⟩ : ∃ y, y = L[j + 1] := ⟨_, rfl⟩
      obtain ⟨j1, hjj⟩ : ∃ j1, j1 = j + 1 := ⟨_, rfl⟩
      rw [← hx] at c0
      rw [← hy, ← hjj] at c1
      have c3 : wr.cell? ⟨ba, oa + j, none⟩ = some (.int .i64 x) := by rw [hm]; simpa using c0
      have c4 : wr.cell? ⟨ba, oa + j1, none⟩ = some (.int .i64 y) := by rw [hm]; simpa using c1
      rw [show ((j : Int) + 1) = (j1 : Int) by omega] at hk1 hk2 hlt ⊢
      have HX := Lib.hid hx
      have HY := Lib.hid hy
      have HJ := Lib.hid hjj
      have HM2 := Lib.hid (fun q => ⟨m + q, by rw [hm, World.drewN_drewN]⟩ : ∀ q, ∃ m, wr.drewN q = w.drewN m)
      have hkm : IntKind.i64.wrap ((j1 : Int) - 1) = (j : Int) := by rw [IntWalk.i64_in _ (by omega)]; omega
      have hjn : (j1 : Int) < (n : Int) := by omega
      have hjn2 : (j : Int) < (n : Int) := by omega
      by_cases hyx : y < x
      · obtain rfl : r = false := by
          cases r with
          | false => rfl
          | true =>
            have h := HR.out.1 rfl j hj1
            rw [HY.out, HX.out] at hyx
            omega
        have HL := Lib.hid (fun w => less_any y x w true (by simp; exact hyx) : ∀ w, Calls Try.prog 40 #[.int .i64 y, .int .i64 x] w fun e w' => e = .returned (.bool true) ∧ w = w')
        clear hx hy c0 c1 hm HM e2 hjj
        go_wp2_with fail
        go_quiet ((go_at_call 40; exact Calls.quiet_of_same ((HL.out _).mono fun _ _ h => ⟨h.1, h.2.symm⟩)))
        go_wp2_with fail
        go_ret
        exact ⟨rfl, HM2.out _⟩
      · have HL := Lib.hid (fun w => less_any y x w false (by simp; omega) : ∀ w, Calls Try.prog 40 #[.int .i64 y, .int .i64 x] w fun e w' => e = .returned (.bool false) ∧ w = w')
        have HE2 := Lib.hid (show ∀ (i : Nat) (h : i + 1 < L.length), (j : Int) ≤ (i : Int) → L[i] ≤ L[i + 1] from fun i h h2 => by
          rcases Nat.eq_or_lt_of_le (show j ≤ i by omega) with e | e
          · subst e
            have h3 := HX.out
            have h4 := HY.out
            rw [← h3, ← h4]; omega
          · exact HE.out i h (by clear hkm hw0; have := HJ.out; omega))
        clear hx hy c0 c1 hm HM e2 hjj
        go_wp2_with fail
        go_quiet ((go_at_call 40; exact Calls.quiet_of_same ((HL.out _).mono fun _ _ h => ⟨h.1, h.2.symm⟩)))
        go_wp2_with fail
        go_roundw
        case rel => exact ⟨(j : Int), by omega, by omega, rfl, HE2, Lib.hid (HM2.out _)⟩
        case measure => (have := HJ.out; simp [intOf]; omega)
    · have HR2 := HR.out
      obtain rfl : r = true := HR.out.2 (fun i h => HE.out i h (by omega))
      have HM2 := HM
      clear HR HR2 hm HE
      go_wp2_with fail
      go_ret
      exact ⟨rfl, HM2.out⟩
theorem sorted_any (A : Option Addr) (n c : Nat) (L : List Int) (w : World) (hA : Row w A (L.map (Value.int .i64))) (hz : n = L.length) (hn : n ≤ 1000000) (r : Bool) (hr : r = risesZ L) :
    Calls Try.prog 11 #[.slice A n c] w fun e w' => e = .returned (.bool r) ∧ ∃ m, w' = w.drewN m := by
  have HA := Lib.hid hA
  have HZ := Lib.hid hz
  have HR := Lib.hid hr
  clear hA hz hr
  go_enter Try.func11, Try.ntmps11
  go_wp2_with fail
  refine (issorted_any A n c L _ HA.out HZ.out hn r HR.out).mono ?_
  rintro e w1 ⟨rfl, m, rfl⟩
  go_wp2_with fail
  go_ret
  exact ⟨rfl, m, rfl⟩
end Go.Proofs.Ytedldajlioeioaa
