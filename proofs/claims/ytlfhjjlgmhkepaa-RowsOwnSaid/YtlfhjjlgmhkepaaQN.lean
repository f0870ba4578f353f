/- Are two lists of rows one (the code's). -/
import Derived.Test.YtlfhjjlgmhkepaaQM
namespace Go.Proofs.Ytlfhjjlgmhkepaa
open Go.RowKit
set_option linter.unusedSimpArgs false
set_option linter.unusedVariables false
set_option maxRecDepth 100000 in
set_option maxHeartbeats 8000000 in
theorem equalrows_any (A B : Option Addr) (n c m d : Nat) (K L : List RV) (w : World) (hA : RowsM w A K) (hB : RowsM w B L) (hn : n = K.length) (hm : m = L.length) (hn2 : n ≤ 9223372036854775807) (hm2 : m ≤ 9223372036854775807) (r : Bool) (hr : r = true ↔ K = L) :
    Calls Try.prog 52 #[.slice A n c, .slice B m d, .func (.func 53) #[] #[]] w fun e w' => e = .returned (.bool r) ∧ Below w.heap.size w w' := by
  have HA := Lib.hid hA
  have HB := Lib.hid hB
  have HN := Lib.hid hn
  have HM := Lib.hid hm
  have HR := Lib.hid hr
  clear hA hB hn hm hr
  by_cases hnm : n = m
  case neg =>
    obtain rfl : r = false := by
      cases r; rfl
      exact absurd (by rw [HN.out, HM.out, HR.out.1 rfl]) hnm
    have q1 : ((n : Int) == (m : Int)) = false := by rw [beq_eq_false_iff_ne]; omega
    have q2 : ((n : Int) != (m : Int)) = true := by rw [bne, q1]; rfl
    clear hnm
    go_enter Try.func52, Try.ntmps52
    go_wp2_with fail
    go_ret
    exact ⟨rfl, Below.refl _ _⟩
  case pos =>
  subst hnm
  go_enter Try.func52, Try.ntmps52
  go_wp2_with fail
  go_loopw [7, 8, 9, 17] (fun i0 p8 p9 i wr => ∃ k : Nat, i = .int .i64 (k : Int) ∧ k ≤ n ∧ Hid (K.take k = L.take k) ∧ Hid (Below w.heap.size w wr)) (fun _ _ _ i _ => n - (intOf i).toNat)
  case atStart => exact ⟨0, rfl, by omega, Lib.hid rfl, Lib.hid (Below.refl _ _)⟩
  case round =>
    obtain ⟨k, rfl, hk, HE, HBW⟩ := hrel
    by_cases hlt : k < n
    case neg =>
      have hki : ¬ (k : Int) < (n : Int) := by omega
      obtain rfl : r = true := HR.out.2 (by
        have h := HE.out
        rwa [List.take_of_length_le (by have := HN.out; omega), List.take_of_length_le (by have := HM.out; omega)] at h)
      clear hlt
      go_wp2_with fail
      go_ret
      exact ⟨rfl, HBW.out⟩
    case pos =>
    have hki : (k : Int) < (n : Int) := by omega
    have hk0 : (0 : Int) ≤ (k : Int) := by omega
    have hkL : k < K.length := by have := HN.out; omega
    have hkM : k < L.length := by have := HM.out; omega
    obtain ⟨b1, o1, rfl, R1⟩ := (HA.out.keep HBW.out).get hkL
    obtain ⟨b2, o2, rfl, R2⟩ := (HB.out.keep HBW.out).get hkM
    obtain ⟨D1, n1, c1, G1, gn1, gc1, x0, x1, x2, x3, x4, x5, x6, x7, x8, x9⟩ := R1
    obtain ⟨D2, n2, c2, G2, gn2, gc2, y0, y1, y2, y3, y4, y5, y6, y7, y8, y9⟩ := R2
    obtain ⟨⟨t1, L1, k1, g1⟩, ht⟩ : ∃ t, t = K[k] := ⟨_, rfl⟩
    obtain ⟨⟨t2, L2, k2, g2⟩, hs⟩ : ∃ t, t = L[k] := ⟨_, rfl⟩
    rw [← ht] at x0 x2 x4 x5 x7 x8
    rw [← hs] at y0 y2 y4 y5 y7 y8
    simp only at x0 x2 x4 x5 x7 x8 y0 y2 y4 y5 y7 y8
    have X4 := Lib.hid x4
    have Y4 := Lib.hid y4
    have X5 := Lib.hid x5
    have Y5 := Lib.hid y5
    have X7 := Lib.hid x7
    have Y7 := Lib.hid y7
    have X8 := Lib.hid x8
    have Y8 := Lib.hid y8
    obtain ⟨p, hp⟩ : ∃ p : Bool, p = true ↔ (L1 = L2 ∧ t1 = t2) ∧ g1 = g2 ∧ k1 = k2 := ⟨decide ((L1 = L2 ∧ t1 = t2) ∧ g1 = g2 ∧ k1 = k2), by simp⟩
    have HP := Lib.hid hp
    have HTS := Lib.hid (show p = true ↔ K[k] = L[k] by rw [← ht, ← hs, RV.one]; exact hp)
    clear ht hs hlt hp x4 y4 x5 y5 x7 y7 x8 y8
    have z0 : (wr.alloc (.cells #[.int .i64 t1, .slice D1 n1 c1, .int .i64 k1, .slice G1 gn1 gc1] 27)).cell? ⟨b2, o2 + k * 4, none⟩ = some (.int .i64 t2) := cell_on (bpush (Below.refl _ _) _) y0
    have z1 : (wr.alloc (.cells #[.int .i64 t1, .slice D1 n1 c1, .int .i64 k1, .slice G1 gn1 gc1] 27)).cell? ⟨b2, o2 + k * 4 + 1, none⟩ = some (.slice D2 n2 c2) := cell_on (bpush (Below.refl _ _) _) y1
    have z2 : (wr.alloc (.cells #[.int .i64 t1, .slice D1 n1 c1, .int .i64 k1, .slice G1 gn1 gc1] 27)).cell? ⟨b2, o2 + k * 4 + 2, none⟩ = some (.int .i64 k2) := cell_on (bpush (Below.refl _ _) _) y2
    have z3 : (wr.alloc (.cells #[.int .i64 t1, .slice D1 n1 c1, .int .i64 k1, .slice G1 gn1 gc1] 27)).cell? ⟨b2, o2 + k * 4 + 3, none⟩ = some (.slice G2 gn2 gc2) := cell_on (bpush (Below.refl _ _) _) y3
    have hbb : Below wr.heap.size wr ((wr.alloc (.cells #[.int .i64 t1, .slice D1 n1 c1, .int .i64 k1, .slice G1 gn1 gc1] 27)).alloc (.cells #[.int .i64 t2, .slice D2 n2 c2, .int .i64 k2, .slice G2 gn2 gc2] 27)) := bpush (bpush (Below.refl _ _) _) _
    have HB3 := Lib.hid hbb
    clear hbb
    go_wp2_with fail
    (go_at_call 53; refine (samerow_any t1 t2 k1 k2 D1 D2 G1 G2 n1 c1 n2 c2 gn1 gc1 gn2 gc2 L1 L2 g1 g2 _ (X4.out.keep (Nat.le_refl _) HB3.out) (Y4.out.keep (Nat.le_refl _) HB3.out) (X7.out.keep (Nat.le_refl _) HB3.out) (Y7.out.keep (Nat.le_refl _) HB3.out) X5.out Y5.out X8.out Y8.out x6 y6 x9 y9 p HP.out).mono ?_; rintro e w7 ⟨rfl, hb⟩)
    have HBB := Lib.hid (HBW.out.trans ((bthen HB3.out hb).mono HBW.out.size))
    clear hb
    cases p with
    | true =>
      have HE2 := Lib.hid (show K.take (k + 1) = L.take (k + 1) by rw [take_snoc K k hkL, take_snoc L k hkM, HE.out, HTS.out.1 rfl])
      go_wp2_with fail
      go_roundw
      case rel => exact ⟨k + 1, by go_num, by omega, HE2, HBB⟩
      case measure => simp [intOf]; omega
    | false =>
      have HNE := Lib.hid (show r = false by
        cases r; rfl
        have e := HR.out.1 rfl
        subst e
        exact absurd (HTS.out.2 rfl) (by simp))
      go_wp2_with fail
      go_ret
      exact ⟨by rw [HNE.out]; rfl, HBB.out⟩
set_option maxRecDepth 100000 in
set_option maxHeartbeats 800000 in
theorem same_any (A B : Option Addr) (n c m d : Nat) (K L : List RV) (w : World) (hA : RowsM w A K) (hB : RowsM w B L) (hn : n = K.length) (hm : m = L.length) (hn2 : n ≤ 9223372036854775807) (hm2 : m ≤ 9223372036854775807) (r : Bool) (hr : r = true ↔ K = L) :
    Calls Try.prog 22 #[.slice A n c, .slice B m d] w fun e w' => e = .returned (.bool r) ∧ Below w.heap.size w w' := by
  have HC := Lib.hid (equalrows_any A B n c m d K L w hA hB hn hm hn2 hm2 r hr)
  clear hA hB hn hm hr
  go_enter Try.func22, Try.ntmps22
  go_wp2_with fail
  go_at_call 52
  refine HC.out.mono ?_
  clear HC
  intro e w7 h
  obtain ⟨he, hb⟩ := h
  subst he
  go_wp2_with fail
  go_ret
  exact ⟨rfl, hb⟩
end Go.Proofs.Ytlfhjjlgmhkepaa
