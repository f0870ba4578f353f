/- Is a list of rows sorted: on both sides. -/
import Derived.Test.YtlfhjjlgmhkepaaQN
namespace Go.Proofs.Ytlfhjjlgmhkepaa
open Go.RowKit
set_option linter.unusedSimpArgs false
set_option linter.unusedVariables false
set_option maxRecDepth 100000 in
set_option maxHeartbeats 8000000 in
theorem refsorted_any (A : Option Addr) (n c : Nat) (K : List RV) (w : World) (hA : RowsM w A K) (hn : n = K.length) (hn2 : n ≤ 9223372036854775807) (r : Bool) (hr : r = true ↔ ∀ i (h : i + 1 < K.length), lessK (K[i]).t (K[i + 1]).t (K[i]).dims (K[i + 1]).dims = true) :
    Calls Try.prog 26 #[.slice A n c] w fun e w' => e = .returned (.bool r) ∧ Below w.heap.size w w' := by
  have HA := Lib.hid hA
  have HN := Lib.hid hn
  have HR := Lib.hid hr
  clear hA hn hr
  go_enter Try.func26, Try.ntmps26
  go_wp2_with fail
  go_loopw [3, 4] (fun i o wr => ∃ k : Nat, i = .int .i64 ((k + 1 : Nat) : Int) ∧ (k = 0 ∨ k + 1 ≤ n) ∧ Hid (∀ i (h : i + 1 < K.length), i < k → lessK (K[i]).t (K[i + 1]).t (K[i]).dims (K[i + 1]).dims = true) ∧ Hid (Below w.heap.size w wr)) (fun i _ _ => n - (intOf i).toNat)
  case atStart => exact ⟨0, rfl, .inl rfl, Lib.hid (fun i _ h => absurd h (by omega)), Lib.hid (Below.refl _ _)⟩
  case round =>
    obtain ⟨k, rfl, hk, HE, HBW⟩ := hrel
    by_cases hlt : k + 1 < n
    case neg =>
      have hki : ¬ (((k + 1 : Nat) : Int) < (n : Int)) := by omega
      obtain rfl : r = true := HR.out.2 (fun i h => HE.out i h (by have := HN.out; omega))
      clear hlt
      go_wp2_with fail
      go_ret
      exact ⟨rfl, HBW.out⟩
    case pos =>
    have hki : ((k + 1 : Nat) : Int) < (n : Int) := by omega
    have hk0 : (0 : Int) ≤ ((k + 1 : Nat) : Int) := by omega
    have hk1 : ((k + 1 : Nat) : Int) - 1 = (k : Int) := by omega
    have hkk : (0 : Int) ≤ (k : Int) := by omega
    have hkn : (k : Int) < (n : Int) := by omega
    have hkw : IntKind.i64.wrap (k : Int) = (k : Int) := IntWalk.i64_in _ (by omega)
    have hkL : k < K.length := by have := HN.out; omega
    have hkM : k + 1 < K.length := by have := HN.out; omega
    obtain ⟨b1, o1, hA1, R1⟩ := (HA.out.keep HBW.out).get hkL
    obtain ⟨b2, o2, hA2, R2⟩ := (HA.out.keep HBW.out).get hkM
    subst hA1
    simp only [Option.some.injEq, Addr.mk.injEq, and_true] at hA2
    obtain ⟨hb12, ho12⟩ := hA2
    subst hb12 ho12
    obtain ⟨D1, n1, c1, G1, gn1, gc1, x0, x1, x2, x3, x4, x5, x6, x7, x8, x9⟩ := R1
    obtain ⟨D2, n2, c2, G2, gn2, gc2, y0, y1, y2, y3, y4, y5, y6, y7, y8, y9⟩ := R2
    obtain ⟨⟨t1, L1, k1, g1⟩, ht⟩ : ∃ t, t = K[k] := ⟨_, rfl⟩
    obtain ⟨⟨t2, L2, k2, g2⟩, hs⟩ : ∃ t, t = K[k + 1] := ⟨_, rfl⟩
    rw [← ht] at x0 x2 x4 x5 x7 x8
    rw [← hs] at y0 y2 y4 y5 y7 y8
    simp only at x0 x2 x4 x5 x7 x8 y0 y2 y4 y5 y7 y8
    obtain ⟨j, hj⟩ : ∃ j : Nat, j = k + 1 := ⟨_, rfl⟩
    have HJ := Lib.hid hj
    rw [← hj] at y0 y1 y2 y3 hki hk0 hk1
    have X4 := Lib.hid x4
    have Y4 := Lib.hid y4
    have X5 := Lib.hid x5
    have Y5 := Lib.hid y5
    obtain ⟨p, hp⟩ : ∃ p, p = lessK t1 t2 L1 L2 := ⟨_, rfl⟩
    have HP := Lib.hid hp
    have HTS := Lib.hid (show p = true ↔ lessK (K[k]).t (K[k + 1]).t (K[k]).dims (K[k + 1]).dims = true by rw [← ht, ← hs, hp])
    rw [← hj]
    clear ht hs hlt hp x4 y4 x5 y5 x7 y7 x8 y8 hj
    go_wp2_with fail
    refine wp_region_held_drew (S := fun w' => Below wr.heap.size wr w') (by kernel_rfl) (below_drewN (Below.refl _ _) 1) ?_
    intro hHeld
    refine take_want (i := 0) (v := ?v0k1) rfl (by kernel_rfl) (by kernel_rfl) (by kernel_rfl) (fun _ _ _ h => h) (by rfl) ?y0k1 (by assumption) ?r0k1
    case y0k1 => (intro w hSw; go_simp; all_goals with_reducible rfl)
    (try simp only [Act.put, List.setIfInBounds_toArray, List.set_cons_zero, List.set_cons_succ])
    refine take_want (i := 1) (v := ?v1k1) rfl (by kernel_rfl) (by kernel_rfl) (by kernel_rfl) (fun _ _ _ h => h) (by rfl) ?y1k1 (by assumption) ?r1k1
    case y1k1 => (intro w hSw; go_simp; all_goals with_reducible rfl)
    (try simp only [Act.put, List.setIfInBounds_toArray, List.set_cons_zero, List.set_cons_succ])
    refine take_want (i := 2) (v := (.int .i64 (k : Int))) rfl (by kernel_rfl) (by kernel_rfl) (by kernel_rfl) (fun _ _ _ h => h) (by rfl) ?y2k1 (by assumption) ?r2k1
    case y2k1 => (intro w hSw; go_simp; try rw [hkw])
    (try simp only [Act.put, List.setIfInBounds_toArray, List.set_cons_zero, List.set_cons_succ])
    refine take_want (i := 3) (v := ?v3k1) rfl (by kernel_rfl) (by kernel_rfl) (by kernel_rfl) (fun _ _ _ h => h) (by rfl) ?y3k1 (by assumption) ?r3k1
    case y3k1 => (intro w hSw; go_simp; all_goals with_reducible rfl)
    (try simp only [Act.put, List.setIfInBounds_toArray, List.set_cons_zero, List.set_cons_succ])
    refine take_want (i := 4) (v := ?v4k1) rfl (by kernel_rfl) (by kernel_rfl) (by kernel_rfl) (fun _ _ _ h => h) (by rfl) ?y4k1 (by assumption) ?r4k1
    case y4k1 => (intro w hSw; have q0 := cell_on hSw x0; have q1 := cell_on hSw x1; have q2 := cell_on hSw x2; have q3 := cell_on hSw x3; go_simp; all_goals with_reducible rfl)
    (try simp only [Act.put, List.setIfInBounds_toArray, List.set_cons_zero, List.set_cons_succ])
    refine take_want (i := 5) (v := ?v5k1) rfl (by kernel_rfl) (by kernel_rfl) (by kernel_rfl) (fun _ _ _ h => h) (by rfl) ?y5k1 (by assumption) ?r5k1
    case y5k1 => (intro w hSw; go_simp; all_goals with_reducible rfl)
    (try simp only [Act.put, List.setIfInBounds_toArray, List.set_cons_zero, List.set_cons_succ])
    refine take_want (i := 6) (v := ?v6k1) rfl (by kernel_rfl) (by kernel_rfl) (by kernel_rfl) (fun _ _ _ h => h) (by rfl) ?y6k1 (by assumption) ?r6k1
    case y6k1 => (intro w hSw; go_simp; all_goals with_reducible rfl)
    (try simp only [Act.put, List.setIfInBounds_toArray, List.set_cons_zero, List.set_cons_succ])
    refine take_want (i := 7) (v := ?v7k1) rfl (by kernel_rfl) (by kernel_rfl) (by kernel_rfl) (fun _ _ _ h => h) (by rfl) ?y7k1 (by assumption) ?r7k1
    case y7k1 => (intro w hSw; go_simp; all_goals with_reducible rfl)
    (try simp only [Act.put, List.setIfInBounds_toArray, List.set_cons_zero, List.set_cons_succ])
    refine take_want (i := 8) (v := ?v8k1) rfl (by kernel_rfl) (by kernel_rfl) (by kernel_rfl) (fun _ _ _ h => h) (by rfl) ?y8k1 (by assumption) ?r8k1
    case y8k1 => (intro w hSw; have q0 := cell_on hSw y0; have q1 := cell_on hSw y1; have q2 := cell_on hSw y2; have q3 := cell_on hSw y3; go_simp; all_goals with_reducible rfl)
    (try simp only [Act.put, List.setIfInBounds_toArray, List.set_cons_zero, List.set_cons_succ])
    refine wpAnyH_ready (rs := [9]) (by kernel_rfl) (by simp) ?_
    refine AllReadyH.cons rfl (fun K hK => ?_) AllReadyH.nil
    go_simp
    (go_at_call 17; refine (less_any t1 t2 k1 k2 D1 D2 G1 G2 n1 c1 n2 c2 gn1 gc1 gn2 gc2 L1 L2 _ (X4.out.keep (Nat.le_refl _) hHeld) (Y4.out.keep (Nat.le_refl _) hHeld) X5.out Y5.out x6 y6).mono ?_; rw [← HP.out]; rintro e w7 ⟨rfl, hb⟩)
    refine hK.out _ _ (bthen hHeld hb) (fun hHeld => ?_)
    clear hK K
    (try simp only [Act.put, List.setIfInBounds_toArray, List.set_cons_zero, List.set_cons_succ])
    refine take_want (i := 10) (v := ?v10k1) rfl (by kernel_rfl) (by kernel_rfl) (by kernel_rfl) (fun _ _ _ h => h) (by rfl) ?y10k1 (by assumption) ?r10k1
    case y10k1 => (intro w hSw; go_simp; all_goals with_reducible rfl)
    (try simp only [Act.put, List.setIfInBounds_toArray, List.set_cons_zero, List.set_cons_succ])
    refine wpAnyH_done (by kernel_rfl) ?_ _
    have HBB := Lib.hid (HBW.out.trans (hHeld.mono HBW.out.size))
    obtain rfl | rfl : p = true ∨ p = false := by cases p <;> simp
    · have HE2 := Lib.hid (show ∀ i (h : i + 1 < K.length), i < k + 1 → lessK (K[i]).t (K[i + 1]).t (K[i]).dims (K[i + 1]).dims = true from fun i h hi => by
        by_cases e : i = k
        · subst e; exact HTS.out.1 rfl
        · exact HE.out i h (by omega))
      go_wp2_with fail
      go_roundw
      case rel => exact ⟨k + 1, by rw [HJ.out]; go_num, .inr (by have := HJ.out; omega), HE2, HBB⟩
      case measure => simp [intOf]; omega
    · have HNE := Lib.hid (show r = false by
        cases r; rfl
        exact absurd (HTS.out.2 (HR.out.1 rfl k hkM)) (by simp))
      go_wp2_with fail
      go_ret
      exact ⟨by rw [HNE.out]; rfl, HBB.out⟩
set_option maxRecDepth 100000 in
set_option maxHeartbeats 8000000 in
theorem sorted_any (A : Option Addr) (n c : Nat) (K : List RV) (w : World) (hA : RowsM w A K) (hn : n = K.length) (hn2 : n ≤ 9223372036854775807) (r : Bool) (hr : r = true ↔ ∀ i (h : i + 1 < K.length), cmpK (K[i]).t (K[i + 1]).t (K[i]).dims (K[i + 1]).dims < 0) :
    Calls Try.prog 25 #[.slice A n c] w fun e w' => e = .returned (.bool r) ∧ Below w.heap.size w w' := by
  have HA := Lib.hid hA
  have HN := Lib.hid hn
  have HR := Lib.hid hr
  clear hA hn hr
  go_enter Try.func25, Try.ntmps25
  go_wp2_with fail
  go_loopw [3] (fun i wr => ∃ k : Nat, i = .int .i64 ((k + 1 : Nat) : Int) ∧ (k = 0 ∨ k + 1 ≤ n) ∧ Hid (∀ i (h : i + 1 < K.length), i < k → cmpK (K[i]).t (K[i + 1]).t (K[i]).dims (K[i + 1]).dims < 0) ∧ Hid (Below w.heap.size w wr)) (fun i _ => n - (intOf i).toNat)
  case atStart => exact ⟨0, rfl, .inl rfl, Lib.hid (fun i _ h => absurd h (by omega)), Lib.hid (Below.refl _ _)⟩
  case round =>
    obtain ⟨k, rfl, hk, HE, HBW⟩ := hrel
    by_cases hlt : k + 1 < n
    case neg =>
      have hki : ¬ (((k + 1 : Nat) : Int) < (n : Int)) := by omega
      obtain rfl : r = true := HR.out.2 (fun i h => HE.out i h (by have := HN.out; omega))
      clear hlt
      go_wp2_with fail
      go_ret
      exact ⟨rfl, HBW.out⟩
    case pos =>
    have hki : ((k + 1 : Nat) : Int) < (n : Int) := by omega
    have hk0 : (0 : Int) ≤ ((k + 1 : Nat) : Int) := by omega
    have hk1 : ((k + 1 : Nat) : Int) - 1 = (k : Int) := by omega
    have hkk : (0 : Int) ≤ (k : Int) := by omega
    have hkn : (k : Int) < (n : Int) := by omega
    have hkw : IntKind.i64.wrap (k : Int) = (k : Int) := IntWalk.i64_in _ (by omega)
    have hkL : k < K.length := by have := HN.out; omega
    have hkM : k + 1 < K.length := by have := HN.out; omega
    obtain ⟨b1, o1, hA1, R1⟩ := (HA.out.keep HBW.out).get hkL
    obtain ⟨b2, o2, hA2, R2⟩ := (HA.out.keep HBW.out).get hkM
    subst hA1
    simp only [Option.some.injEq, Addr.mk.injEq, and_true] at hA2
    obtain ⟨hb12, ho12⟩ := hA2
    subst hb12 ho12
    obtain ⟨D1, n1, c1, G1, gn1, gc1, x0, x1, x2, x3, x4, x5, x6, x7, x8, x9⟩ := R1
    obtain ⟨D2, n2, c2, G2, gn2, gc2, y0, y1, y2, y3, y4, y5, y6, y7, y8, y9⟩ := R2
    obtain ⟨⟨t1, L1, k1, g1⟩, ht⟩ : ∃ t, t = K[k] := ⟨_, rfl⟩
    obtain ⟨⟨t2, L2, k2, g2⟩, hs⟩ : ∃ t, t = K[k + 1] := ⟨_, rfl⟩
    rw [← ht] at x0 x2 x4 x5 x7 x8
    rw [← hs] at y0 y2 y4 y5 y7 y8
    simp only at x0 x2 x4 x5 x7 x8 y0 y2 y4 y5 y7 y8
    obtain ⟨j, hj⟩ : ∃ j : Nat, j = k + 1 := ⟨_, rfl⟩
    have HJ := Lib.hid hj
    rw [← hj] at y0 y1 y2 y3 hki hk0 hk1
    have X4 := Lib.hid x4
    have Y4 := Lib.hid y4
    have X5 := Lib.hid x5
    have Y5 := Lib.hid y5
    obtain ⟨p, hp⟩ : ∃ p, p = cmpK t1 t2 L1 L2 := ⟨_, rfl⟩
    have HP := Lib.hid hp
    have HTS := Lib.hid (show p < 0 ↔ cmpK (K[k]).t (K[k + 1]).t (K[k]).dims (K[k + 1]).dims < 0 by rw [← ht, ← hs, hp])
    rw [← hj]
    clear ht hs hlt hp x4 y4 x5 y5 x7 y7 x8 y8 hj
    go_wp2_with fail
    refine wp_region_held_drew (S := fun w' => Below wr.heap.size wr w') (by kernel_rfl) (below_drewN (Below.refl _ _) 1) ?_
    intro hHeld
    refine take_want (i := 0) (v := ?v0k2) rfl (by kernel_rfl) (by kernel_rfl) (by kernel_rfl) (fun _ _ _ h => h) (by rfl) ?y0k2 (by assumption) ?r0k2
    case y0k2 => (intro w hSw; go_simp; all_goals with_reducible rfl)
    (try simp only [Act.put, List.setIfInBounds_toArray, List.set_cons_zero, List.set_cons_succ])
    refine take_want (i := 1) (v := ?v1k2) rfl (by kernel_rfl) (by kernel_rfl) (by kernel_rfl) (fun _ _ _ h => h) (by rfl) ?y1k2 (by assumption) ?r1k2
    case y1k2 => (intro w hSw; go_simp; all_goals with_reducible rfl)
    (try simp only [Act.put, List.setIfInBounds_toArray, List.set_cons_zero, List.set_cons_succ])
    refine take_want (i := 2) (v := (.int .i64 (k : Int))) rfl (by kernel_rfl) (by kernel_rfl) (by kernel_rfl) (fun _ _ _ h => h) (by rfl) ?y2k2 (by assumption) ?r2k2
    case y2k2 => (intro w hSw; go_simp; try rw [hkw])
    (try simp only [Act.put, List.setIfInBounds_toArray, List.set_cons_zero, List.set_cons_succ])
    refine take_want (i := 3) (v := ?v3k2) rfl (by kernel_rfl) (by kernel_rfl) (by kernel_rfl) (fun _ _ _ h => h) (by rfl) ?y3k2 (by assumption) ?r3k2
    case y3k2 => (intro w hSw; go_simp; all_goals with_reducible rfl)
    (try simp only [Act.put, List.setIfInBounds_toArray, List.set_cons_zero, List.set_cons_succ])
    refine take_want (i := 4) (v := ?v4k2) rfl (by kernel_rfl) (by kernel_rfl) (by kernel_rfl) (fun _ _ _ h => h) (by rfl) ?y4k2 (by assumption) ?r4k2
    case y4k2 => (intro w hSw; have q0 := cell_on hSw x0; have q1 := cell_on hSw x1; have q2 := cell_on hSw x2; have q3 := cell_on hSw x3; go_simp; all_goals with_reducible rfl)
    (try simp only [Act.put, List.setIfInBounds_toArray, List.set_cons_zero, List.set_cons_succ])
    refine take_want (i := 5) (v := ?v5k2) rfl (by kernel_rfl) (by kernel_rfl) (by kernel_rfl) (fun _ _ _ h => h) (by rfl) ?y5k2 (by assumption) ?r5k2
    case y5k2 => (intro w hSw; go_simp; all_goals with_reducible rfl)
    (try simp only [Act.put, List.setIfInBounds_toArray, List.set_cons_zero, List.set_cons_succ])
    refine take_want (i := 6) (v := ?v6k2) rfl (by kernel_rfl) (by kernel_rfl) (by kernel_rfl) (fun _ _ _ h => h) (by rfl) ?y6k2 (by assumption) ?r6k2
    case y6k2 => (intro w hSw; go_simp; all_goals with_reducible rfl)
    (try simp only [Act.put, List.setIfInBounds_toArray, List.set_cons_zero, List.set_cons_succ])
    refine take_want (i := 7) (v := ?v7k2) rfl (by kernel_rfl) (by kernel_rfl) (by kernel_rfl) (fun _ _ _ h => h) (by rfl) ?y7k2 (by assumption) ?r7k2
    case y7k2 => (intro w hSw; go_simp; all_goals with_reducible rfl)
    (try simp only [Act.put, List.setIfInBounds_toArray, List.set_cons_zero, List.set_cons_succ])
    refine take_want (i := 8) (v := ?v8k2) rfl (by kernel_rfl) (by kernel_rfl) (by kernel_rfl) (fun _ _ _ h => h) (by rfl) ?y8k2 (by assumption) ?r8k2
    case y8k2 => (intro w hSw; have q0 := cell_on hSw y0; have q1 := cell_on hSw y1; have q2 := cell_on hSw y2; have q3 := cell_on hSw y3; go_simp; all_goals with_reducible rfl)
    (try simp only [Act.put, List.setIfInBounds_toArray, List.set_cons_zero, List.set_cons_succ])
    refine wpAnyH_ready (rs := [9]) (by kernel_rfl) (by simp) ?_
    refine AllReadyH.cons rfl (fun K hK => ?_) AllReadyH.nil
    go_simp
    (go_at_call 21; refine (compare_any t1 t2 k1 k2 D1 D2 G1 G2 n1 c1 n2 c2 gn1 gc1 gn2 gc2 L1 L2 _ (X4.out.keep (Nat.le_refl _) hHeld) (Y4.out.keep (Nat.le_refl _) hHeld) X5.out Y5.out x6 y6).mono ?_; rw [← HP.out]; rintro e w7 ⟨rfl, hb⟩)
    refine hK.out _ _ (bthen hHeld hb) (fun hHeld => ?_)
    clear hK K
    (try simp only [Act.put, List.setIfInBounds_toArray, List.set_cons_zero, List.set_cons_succ])
    refine take_want (i := 10) (v := ?v10k2) rfl (by kernel_rfl) (by kernel_rfl) (by kernel_rfl) (fun _ _ _ h => h) (by rfl) ?y10k2 (by assumption) ?r10k2
    case y10k2 => (intro w hSw; go_simp; all_goals with_reducible rfl)
    (try simp only [Act.put, List.setIfInBounds_toArray, List.set_cons_zero, List.set_cons_succ])
    refine wpAnyH_done (by kernel_rfl) ?_ _
    have HBB := Lib.hid (HBW.out.trans (hHeld.mono HBW.out.size))
    rcases Int.lt_or_le p 0 with hlt | hge
    · have hh : ¬ (0 ≤ p) := by omega
      have HE2 := Lib.hid (show ∀ i (h : i + 1 < K.length), i < k + 1 → cmpK (K[i]).t (K[i + 1]).t (K[i]).dims (K[i + 1]).dims < 0 from fun i h hi => by
        by_cases e : i = k
        · subst e; exact HTS.out.1 hlt
        · exact HE.out i h (by omega))
      go_wp2_with fail
      go_roundw
      case rel => exact ⟨k + 1, by rw [HJ.out]; go_num, .inr (by have := HJ.out; omega), HE2, HBB⟩
      case measure => simp [intOf]; omega
    · have HNE := Lib.hid (show r = false by
        cases r; rfl
        exact absurd (HTS.out.2 (HR.out.1 rfl k hkM)) (by omega))
      go_wp2_with fail
      go_ret
      exact ⟨by rw [HNE.out]; rfl, HBB.out⟩
end Go.Proofs.Ytlfhjjlgmhkepaa
