/- The stretches of one key, one behind the other. What a sorted list of rows folds to. Fold of few rows. -/
import Derived.Test.YtmmeekmiildliaaGreatDoorRI
import Derived.Test.YtmmeekmiildliaaGreatDoorRD
import Derived.Laws.EntriesVeiled
namespace Go.Proofs.YtmmeekmiildliaaGreatDoor
open Go.RowKit Go.Shelf
set_option linter.unusedSimpArgs false
set_option linter.unusedVariables false
attribute [local go_sem] Oper.semAt_some
theorem slice_rows (b off n c lo hi : Nat) (h1 : lo < hi) (h2 : hi ≤ n) (h3 : n ≤ c) (W : World) : Sem.run Tryz.prog (Instr.slice 46 (.slice (some ⟨b, off, none⟩) n c) (some (.int .i64 (lo : Int))) (some (.int .i64 (hi : Int))) none) W = .ok (.slice (some ⟨b, off + lo * 4, none⟩) (hi - lo) (c - lo)) W := by
  have hs : ∀ W, Sem.run Tryz.prog (Go.sizeOf (Tryz.prog.elem 46)) W = .ok 4 W := fun _ => by kernel_rfl
  have e : Tryz.prog.elem 46 = 59 := by kernel_rfl
  rw [run_slice_lh W 46 (some ⟨b, off, none⟩) n c (by rw [e]; exact Tryz.underlying46) .i64 .i64 lo hi (by omega) (by omega) (by omega), hs]
  have e2 : (⟨b, off, none⟩ : Addr).add (lo * 4) = ⟨b, off + lo * 4, none⟩ := by
    unfold Addr.add; split
    · rename_i h; rw [h]; rfl
    · rfl
  simp only [Result.andThen, sliced, Int.toNat_natCast, Option.map_some, e2]
  rw [if_neg (by omega)]
/-- A stretch of one key, that no row behind it belongs to. -/
def Stretch (Z : List RZ) (b e : Nat) : Prop := b < e ∧ e ≤ Z.length ∧ (∀ i (h : i + 1 < Z.length), b ≤ i → i + 1 < e → cmpV Z[i].2 Z[i + 1].2 = 0) ∧ (∀ (h : e < Z.length), cmpV (Z[e - 1]'(by omega)).2 Z[e].2 ≠ 0)
set_option maxRecDepth 100000 in
set_option maxHeartbeats 8000000 in
theorem keys_in (n l Bs len cap blk : Nat) (Z : List RZ) (hlen : len = Z.length) (hl9 : len ≤ 1000000) (hcap : len ≤ cap) (J : Nat → World → Prop) (Jx : World → Prop)
    (hJB : ∀ k W, J k W → W.cell? ⟨Bs, 0, none⟩ = some (.slice (some ⟨blk, 0, none⟩) len cap) ∧ RowsC W (some ⟨blk, 0, none⟩) Z) (hJA : ∀ k W W', J k W → W.grownBy W' none → J k W')
    (hY : ∀ b e W, Stretch Z b e → J b W → YieldAt Fence.wide (n - 1) Tryz.prog l #[.slice (some ⟨blk, b * 4, none⟩) (e - b) (cap - b)] W fun e' W' => (e' = .returned (.bool true) ∧ J e W') ∨ (e' = .returned (.bool false) ∧ Jx W'))
    (W : World) (h0 : J 0 W) :
    CallsIn Fence.wide n Tryz.prog 88 #[.func (.yield l) #[] #[], .pointer (some ⟨Bs, 0, none⟩)] W fun e W' => (∃ v, e = .returned v) ∧ (J Z.length W' ∨ Jx W') := by
  refine callsIn_of_wp Tryz.func88 rfl trivial ?_ rfl
  simp only [Tryz.ntmps88, List.size_toArray, List.length_cons, List.length_nil, Nat.reduceAdd, Nat.reduceSub, Array.replicate_succ, Array.replicate_zero, List.push_toArray, List.append_toArray, List.nil_append, List.cons_append]
  have HY := Lib.hid hY
  have HJ0 := Lib.hid h0
  have hb0 := (hJB 0 W h0).1
  have HJB := Lib.hid hJB
  have HJA := Lib.hid hJA
  have HZ := Lib.hid hlen
  have HCAP := Lib.hid hcap
  clear hY h0 hJB hJA hlen hcap
  gi_wp2
  clear hb0
  gi_loopw [3, 4, 7] (fun b q4 i wr => ∃ b0 k : Nat, b = .int .i64 (b0 : Int) ∧ i = .int .i64 (k : Int) ∧ b0 ≤ k ∧ k ≤ len ∧ (k = len → b0 = len) ∧ Hid (∀ i (h : i + 1 < Z.length), b0 ≤ i → i < k → cmpV Z[i].2 Z[i + 1].2 = 0) ∧ Hid (J b0 wr)) (fun _ _ i _ => len - (intOf i).toNat)
  case atStart => exact ⟨0, 0, rfl, rfl, Nat.le_refl _, Nat.zero_le _, fun h => h, Lib.hid (fun i h h1 h2 => absurd h2 (by omega)), HJ0⟩
  case round =>
    obtain ⟨b0, k, rfl, rfl, hbk, hk, hkb, HS, HJS⟩ := hrel
    by_cases hlt : k < len
    case neg =>
      obtain rfl : k = len := by omega
      obtain rfl : b0 = k := hkb rfl
      have HF := Lib.hid (show J Z.length wr by have h := HJS.out; rwa [HZ.out] at h)
      clear hkb hlt
      gi_wp2
      go_end0
      exact ⟨⟨_, rfl⟩, .inl HF.out⟩
    case pos =>
    have hki : (k : Int) < (len : Int) := by omega
    have hk0 : (0 : Int) ≤ (k : Int) := by omega
    obtain ⟨kk, hkk⟩ : ∃ kk, kk = k + 1 := ⟨_, rfl⟩
    have HKK := Lib.hid hkk
    have hkw : IntKind.i64.wrap ((k : Int) + 1) = (kk : Int) := by rw [IntWalk.i64_in _ (by omega)]; omega
    have hk1 : (0 : Int) ≤ (kk : Int) := by omega
    have hb00 : (0 : Int) ≤ (b0 : Int) := by omega
    have sl : ∀ W, Sem.run Tryz.prog (Instr.slice 46 (.slice (some ⟨blk, 0, none⟩) len cap) (some (.int .i64 (b0 : Int))) (some (.int .i64 (kk : Int))) none) W = .ok (.slice (some ⟨blk, b0 * 4, none⟩) (kk - b0) (cap - b0)) W := fun W => by have h := slice_rows blk 0 len cap b0 kk (by omega) (by omega) HCAP.out W; rwa [Nat.zero_add] at h
    have x0 := (HJB.out _ _ HJS.out).1
    have hrc := (HJB.out _ _ HJS.out).2
    -- what is done where a stretch ends
    by_cases hlast : kk < len
    case neg =>
      have hki3 : ¬ ((kk : Int) < (len : Int)) := by omega
      have HST := Lib.hid (show Stretch Z b0 kk from ⟨by omega, by rw [← HZ.out]; omega, fun i h h1 h2 => HS.out i h h1 (by omega), fun h => absurd h (by rw [← HZ.out]; omega)⟩)
      have HKL := Lib.hid (show kk = Z.length by rw [← HZ.out]; omega)
      clear hlt hlast hkk hrc hkb
      gi_wp2
      refine wpIn_wide.2 ?_
      refine wp_region_held_drew (S := fun w' => Below wr.heap.size wr w') (by kernel_rfl) (below_drewN (Below.refl _ _) 1) ?_
      intro hHeld
      refine take_want (i := 0) (v := ?v0k2) rfl (by kernel_rfl) (by kernel_rfl) (by kernel_rfl) (fun _ _ _ h => h) (by rfl) ?y0k2 (by assumption) ?r0k2
      case y0k2 => (intro w hSw; go_simp; all_goals with_reducible rfl)
      (try simp only [Act.put, List.setIfInBounds_toArray, List.set_cons_zero, List.set_cons_succ])
      refine take_want (i := 1) (v := (.int .i64 (kk : Int))) rfl (by kernel_rfl) (by kernel_rfl) (by kernel_rfl) (fun _ _ _ h => h) (by rfl) ?y1k2 (by assumption) ?r1k2
      case y1k2 => (intro w hSw; go_simp; try rw [hkw])
      (try simp only [Act.put, List.setIfInBounds_toArray, List.set_cons_zero, List.set_cons_succ])
      refine take_want (i := 2) (v := ?v2k2) rfl (by kernel_rfl) (by kernel_rfl) (by kernel_rfl) (fun _ _ _ h => h) (by rfl) ?y2k2 (by assumption) ?r2k2
      case y2k2 => (intro w hSw; have m0 := cell_on hSw x0; go_simp; all_goals with_reducible rfl)
      (try simp only [Act.put, List.setIfInBounds_toArray, List.set_cons_zero, List.set_cons_succ])
      refine take_want (i := 3) (v := ?v3k2) rfl (by kernel_rfl) (by kernel_rfl) (by kernel_rfl) (fun _ _ _ h => h) (by rfl) ?y3k2 (by assumption) ?r3k2
      case y3k2 => (intro w hSw; go_simp; all_goals with_reducible rfl)
      (try simp only [Act.put, List.setIfInBounds_toArray, List.set_cons_zero, List.set_cons_succ])
      refine take_want (i := 4) (v := (.bool false)) rfl (by kernel_rfl) (by kernel_rfl) (by kernel_rfl) (fun _ _ _ h => h) (by rfl) ?y4k2 (by assumption) ?r4k2
      case y4k2 => (intro w hSw; go_simp; (try simp [hki3]); (try omega))
      (try simp only [Act.put, List.setIfInBounds_toArray, List.set_cons_zero, List.set_cons_succ])
      refine take_want (i := 5) (v := ?v5k2) rfl (by kernel_rfl) (by kernel_rfl) (by kernel_rfl) (fun _ _ _ h => h) (by rfl) ?y5k2 (by assumption) ?r5k2
      case y5k2 => (intro w hSw; go_simp; all_goals with_reducible rfl)
      (try simp only [Act.put, List.setIfInBounds_toArray, List.set_cons_zero, List.set_cons_succ])
      refine take_skip (i := 6) rfl (by kernel_rfl) (by kernel_rfl) (by kernel_rfl) (fun _ _ _ h => h) (by rfl) (by assumption) ?_
      (try simp only [Act.put, List.setIfInBounds_toArray, List.set_cons_zero, List.set_cons_succ])
      refine take_skip (i := 7) rfl (by kernel_rfl) (by kernel_rfl) (by kernel_rfl) (fun _ _ _ h => h) (by rfl) (by assumption) ?_
      (try simp only [Act.put, List.setIfInBounds_toArray, List.set_cons_zero, List.set_cons_succ])
      refine take_skip (i := 8) rfl (by kernel_rfl) (by kernel_rfl) (by kernel_rfl) (fun _ _ _ h => h) (by rfl) (by assumption) ?_
      (try simp only [Act.put, List.setIfInBounds_toArray, List.set_cons_zero, List.set_cons_succ])
      refine take_skip (i := 9) rfl (by kernel_rfl) (by kernel_rfl) (by kernel_rfl) (fun _ _ _ h => h) (by rfl) (by assumption) ?_
      (try simp only [Act.put, List.setIfInBounds_toArray, List.set_cons_zero, List.set_cons_succ])
      refine take_skip (i := 10) rfl (by kernel_rfl) (by kernel_rfl) (by kernel_rfl) (fun _ _ _ h => h) (by rfl) (by assumption) ?_
      (try simp only [Act.put, List.setIfInBounds_toArray, List.set_cons_zero, List.set_cons_succ])
      refine take_skip (i := 11) rfl (by kernel_rfl) (by kernel_rfl) (by kernel_rfl) (fun _ _ _ h => h) (by rfl) (by assumption) ?_
      (try simp only [Act.put, List.setIfInBounds_toArray, List.set_cons_zero, List.set_cons_succ])
      refine take_skip (i := 12) rfl (by kernel_rfl) (by kernel_rfl) (by kernel_rfl) (fun _ _ _ h => h) (by rfl) (by assumption) ?_
      (try simp only [Act.put, List.setIfInBounds_toArray, List.set_cons_zero, List.set_cons_succ])
      refine take_skip (i := 13) rfl (by kernel_rfl) (by kernel_rfl) (by kernel_rfl) (fun _ _ _ h => h) (by rfl) (by assumption) ?_
      (try simp only [Act.put, List.setIfInBounds_toArray, List.set_cons_zero, List.set_cons_succ])
      refine take_skip (i := 14) rfl (by kernel_rfl) (by kernel_rfl) (by kernel_rfl) (fun _ _ _ h => h) (by rfl) (by assumption) ?_
      (try simp only [Act.put, List.setIfInBounds_toArray, List.set_cons_zero, List.set_cons_succ])
      refine take_skip (i := 15) rfl (by kernel_rfl) (by kernel_rfl) (by kernel_rfl) (fun _ _ _ h => h) (by rfl) (by assumption) ?_
      (try simp only [Act.put, List.setIfInBounds_toArray, List.set_cons_zero, List.set_cons_succ])
      refine take_skip (i := 16) rfl (by kernel_rfl) (by kernel_rfl) (by kernel_rfl) (fun _ _ _ h => h) (by rfl) (by assumption) ?_
      (try simp only [Act.put, List.setIfInBounds_toArray, List.set_cons_zero, List.set_cons_succ])
      refine take_want (i := 17) (v := ?v17k2) rfl (by kernel_rfl) (by kernel_rfl) (by kernel_rfl) (fun _ _ _ h => h) (by rfl) ?y17k2 (by assumption) ?r17k2
      case y17k2 => (intro w hSw; go_simp; all_goals with_reducible rfl)
      (try simp only [Act.put, List.setIfInBounds_toArray, List.set_cons_zero, List.set_cons_succ])
      refine wpAnyH_done (by kernel_rfl) ?_ _
      have hj := HJA.out _ _ _ HJS.out (grown_none hHeld)
      revert hj hHeld
      generalize wr.drew = wk
      intro hHeld hj
      have x0 := (HJB.out _ _ hj).1
      obtain ⟨fn, tmps, assign, body, hy1, hR1⟩ := HY.out b0 kk wk HST.out hj
      have HR1 := Lib.hid hR1
      clear hR1 hj hHeld
      gi_wp2
      try (refine ⟨(fun h => by simp [Fence.wide] at h), ?_⟩)
      refine HR1.out.mono ?_
      rintro e W1 (⟨rfl, hJ1⟩ | ⟨rfl, hJ1⟩)
      · have HJ1 := Lib.hid hJ1
        clear hJ1 hy1
        gi_wp2
        go_roundw
        case rel => exact ⟨kk, kk, by first | rfl | (rw [HKK.out]; go_num), by first | rfl | (rw [HKK.out]; go_num), Nat.le_refl _, by have := HKK.out; omega, fun h => h, Lib.hid (fun i h h1 h2 => absurd h2 (by omega)), HJ1⟩
        case measure => have := HKK.out; simp [intOf] <;> omega
      · have HJ1 := Lib.hid hJ1
        clear hJ1 hy1
        gi_wp2
        try (refine ⟨fun _ h => (by cases h), ?_⟩)
        gi_wp2
        refine bodyPost_ret (results_none rfl _ _ _) rfl ?_
        exact ⟨⟨_, rfl⟩, .inr HJ1.out⟩
    case pos =>
    have hki2 : (kk : Int) < (len : Int) := by omega
    have hkL : k < Z.length := by have := HZ.out; omega
    have hkM : kk < Z.length := by have := HZ.out; omega
    obtain ⟨bb, oo, he, p0, p1, p2, p3⟩ := hrc.at hkL
    obtain ⟨bb2, oo2, he2, q0, q1, q2, q3⟩ := hrc.at hkM
    cases he; cases he2
    have g1 := hrc.good _ (List.getElem_mem hkL)
    have g2 := hrc.good _ (List.getElem_mem hkM)
    have HSS := Lib.hid (show ∀ i (h : i + 1 < Z.length), b0 ≤ i → i + 1 < kk → cmpV Z[i].2 Z[i + 1].2 = 0 from fun i h h1 h2 => HS.out i h h1 (by omega))
    have HCV := Lib.hid (show ∀ (h : k + 1 < Z.length), cmpV Z[k].2 Z[k + 1].2 = cmpV Z[k].2 Z[kk].2 from fun h => by simp only [hkk])
    have HKE := Lib.hid (show kk - 1 = k by omega)
    obtain ⟨⟨⟨D1, n1, c1, G1, gn1, gc1⟩, ⟨t1, L1, u1, X1⟩⟩, hz1⟩ : ∃ z, z = Z[k] := ⟨_, rfl⟩
    obtain ⟨⟨⟨D2, n2, c2, G2, gn2, gc2⟩, ⟨t2, L2, u2, X2⟩⟩, hz2⟩ : ∃ z, z = Z[kk] := ⟨_, rfl⟩
    rw [← hz1] at p0 p1 p2 p3 g1
    rw [← hz2] at q0 q1 q2 q3 g2
    simp only [Nat.zero_add] at p0 p1 p2 p3 q0 q1 q2 q3
    obtain ⟨pv, hp⟩ : ∃ p, p = cmpK t1 t2 L1 L2 := ⟨_, rfl⟩
    have HP := Lib.hid hp
    have HPV := Lib.hid (show pv = cmpV Z[k].2 Z[kk].2 by rw [← hz1, ← hz2, hp]; rfl)
    have X4 := Lib.hid g1.rd
    have Y4 := Lib.hid g2.rd
    have X5 := Lib.hid g1.nd
    have Y5 := Lib.hid g2.nd
    have x6 : n1 ≤ 9223372036854775807 := by have := g1.sd; simp only at this; omega
    have y6 : n2 ≤ 9223372036854775807 := by have := g2.sd; simp only at this; omega
    simp only at X4 Y4 X5 Y5
    clear hz1 hz2 hp g1 g2 hrc hkb hlt hlast hkk
    gi_wp2
    refine wpIn_wide.2 ?_
    refine wp_region_held_drew (S := fun w' => Below wr.heap.size wr w') (by kernel_rfl) (below_drewN (Below.refl _ _) 1) ?_
    intro hHeld
    refine take_want (i := 0) (v := ?v0k1) rfl (by kernel_rfl) (by kernel_rfl) (by kernel_rfl) (fun _ _ _ h => h) (by rfl) ?y0k1 (by assumption) ?r0k1
    case y0k1 => (intro w hSw; go_simp; all_goals with_reducible rfl)
    (try simp only [Act.put, List.setIfInBounds_toArray, List.set_cons_zero, List.set_cons_succ])
    refine take_want (i := 1) (v := (.int .i64 (kk : Int))) rfl (by kernel_rfl) (by kernel_rfl) (by kernel_rfl) (fun _ _ _ h => h) (by rfl) ?y1k1 (by assumption) ?r1k1
    case y1k1 => (intro w hSw; go_simp; try rw [hkw])
    (try simp only [Act.put, List.setIfInBounds_toArray, List.set_cons_zero, List.set_cons_succ])
    refine take_want (i := 2) (v := ?v2k1) rfl (by kernel_rfl) (by kernel_rfl) (by kernel_rfl) (fun _ _ _ h => h) (by rfl) ?y2k1 (by assumption) ?r2k1
    case y2k1 => (intro w hSw; have m0 := cell_on hSw x0; go_simp; all_goals with_reducible rfl)
    (try simp only [Act.put, List.setIfInBounds_toArray, List.set_cons_zero, List.set_cons_succ])
    refine take_want (i := 3) (v := ?v3k1) rfl (by kernel_rfl) (by kernel_rfl) (by kernel_rfl) (fun _ _ _ h => h) (by rfl) ?y3k1 (by assumption) ?r3k1
    case y3k1 => (intro w hSw; go_simp; all_goals with_reducible rfl)
    (try simp only [Act.put, List.setIfInBounds_toArray, List.set_cons_zero, List.set_cons_succ])
    refine take_want (i := 4) (v := (.bool true)) rfl (by kernel_rfl) (by kernel_rfl) (by kernel_rfl) (fun _ _ _ h => h) (by rfl) ?y4k1 (by assumption) ?r4k1
    case y4k1 => (intro w hSw; go_simp; (try simp [hki2]); (try omega))
    (try simp only [Act.put, List.setIfInBounds_toArray, List.set_cons_zero, List.set_cons_succ])
    refine take_want (i := 5) (v := ?v5k1) rfl (by kernel_rfl) (by kernel_rfl) (by kernel_rfl) (fun _ _ _ h => h) (by rfl) ?y5k1 (by assumption) ?r5k1
    case y5k1 => (intro w hSw; go_simp; all_goals with_reducible rfl)
    (try simp only [Act.put, List.setIfInBounds_toArray, List.set_cons_zero, List.set_cons_succ])
    refine take_want (i := 6) (v := ?v6k1) rfl (by kernel_rfl) (by kernel_rfl) (by kernel_rfl) (fun _ _ _ h => h) (by rfl) ?y6k1 (by assumption) ?r6k1
    case y6k1 => (intro w hSw; have m0 := cell_on hSw x0; go_simp; all_goals with_reducible rfl)
    (try simp only [Act.put, List.setIfInBounds_toArray, List.set_cons_zero, List.set_cons_succ])
    refine take_want (i := 7) (v := ?v7k1) rfl (by kernel_rfl) (by kernel_rfl) (by kernel_rfl) (fun _ _ _ h => h) (by rfl) ?y7k1 (by assumption) ?r7k1
    case y7k1 => (intro w hSw; go_simp; all_goals with_reducible rfl)
    (try simp only [Act.put, List.setIfInBounds_toArray, List.set_cons_zero, List.set_cons_succ])
    refine take_want (i := 8) (v := ?v8k1) rfl (by kernel_rfl) (by kernel_rfl) (by kernel_rfl) (fun _ _ _ h => h) (by rfl) ?y8k1 (by assumption) ?r8k1
    case y8k1 => (intro w hSw; go_simp; all_goals with_reducible rfl)
    (try simp only [Act.put, List.setIfInBounds_toArray, List.set_cons_zero, List.set_cons_succ])
    refine take_want (i := 9) (v := ?v9k1) rfl (by kernel_rfl) (by kernel_rfl) (by kernel_rfl) (fun _ _ _ h => h) (by rfl) ?y9k1 (by assumption) ?r9k1
    case y9k1 => (intro w hSw; have m0 := cell_on hSw x0; have m1 := cell_on hSw p0; have m2 := cell_on hSw p1; have m3 := cell_on hSw p2; have m4 := cell_on hSw p3; have n1 := cell_on hSw q0; have n2 := cell_on hSw q1; have n3 := cell_on hSw q2; have n4 := cell_on hSw q3; go_simp; all_goals with_reducible rfl)
    (try simp only [Act.put, List.setIfInBounds_toArray, List.set_cons_zero, List.set_cons_succ])
    refine take_want (i := 10) (v := ?v10k1) rfl (by kernel_rfl) (by kernel_rfl) (by kernel_rfl) (fun _ _ _ h => h) (by rfl) ?y10k1 (by assumption) ?r10k1
    case y10k1 => (intro w hSw; have m0 := cell_on hSw x0; go_simp; all_goals with_reducible rfl)
    (try simp only [Act.put, List.setIfInBounds_toArray, List.set_cons_zero, List.set_cons_succ])
    refine take_want (i := 11) (v := ?v11k1) rfl (by kernel_rfl) (by kernel_rfl) (by kernel_rfl) (fun _ _ _ h => h) (by rfl) ?y11k1 (by assumption) ?r11k1
    case y11k1 => (intro w hSw; go_simp; all_goals with_reducible rfl)
    (try simp only [Act.put, List.setIfInBounds_toArray, List.set_cons_zero, List.set_cons_succ])
    refine take_want (i := 12) (v := (.int .i64 (kk : Int))) rfl (by kernel_rfl) (by kernel_rfl) (by kernel_rfl) (fun _ _ _ h => h) (by rfl) ?y12k1 (by assumption) ?r12k1
    case y12k1 => (intro w hSw; go_simp; try rw [hkw])
    (try simp only [Act.put, List.setIfInBounds_toArray, List.set_cons_zero, List.set_cons_succ])
    refine take_want (i := 13) (v := ?v13k1) rfl (by kernel_rfl) (by kernel_rfl) (by kernel_rfl) (fun _ _ _ h => h) (by rfl) ?y13k1 (by assumption) ?r13k1
    case y13k1 => (intro w hSw; go_simp; all_goals with_reducible rfl)
    (try simp only [Act.put, List.setIfInBounds_toArray, List.set_cons_zero, List.set_cons_succ])
    refine take_want (i := 14) (v := ?v14k1) rfl (by kernel_rfl) (by kernel_rfl) (by kernel_rfl) (fun _ _ _ h => h) (by rfl) ?y14k1 (by assumption) ?r14k1
    case y14k1 => (intro w hSw; have m0 := cell_on hSw x0; have m1 := cell_on hSw p0; have m2 := cell_on hSw p1; have m3 := cell_on hSw p2; have m4 := cell_on hSw p3; have n1 := cell_on hSw q0; have n2 := cell_on hSw q1; have n3 := cell_on hSw q2; have n4 := cell_on hSw q3; go_simp; all_goals with_reducible rfl)
    (try simp only [Act.put, List.setIfInBounds_toArray, List.set_cons_zero, List.set_cons_succ])
    refine wpAnyH_ready (rs := [15]) (by kernel_rfl) (by simp) ?_
    refine AllReadyH.cons rfl (fun K hK => ?_) AllReadyH.nil
    go_simp
    (go_at_call 41; refine (compare_any t1 t2 u1 u2 D1 D2 G1 G2 n1 c1 n2 c2 gn1 gc1 gn2 gc2 L1 L2 _ (X4.out.keep (Nat.le_refl _) hHeld) (Y4.out.keep (Nat.le_refl _) hHeld) X5.out Y5.out x6 y6).mono ?_; rw [← HP.out]; rintro e w7 ⟨rfl, hb⟩)
    refine hK.out _ _ (bthen hHeld hb) (fun hHeld => ?_)
    clear hK K
    (try simp only [Act.put, List.setIfInBounds_toArray, List.set_cons_zero, List.set_cons_succ])
    refine take_want (i := 16) (v := ?v16k1) rfl (by kernel_rfl) (by kernel_rfl) (by kernel_rfl) (fun _ _ _ h => h) (by rfl) ?y16k1 (by assumption) ?r16k1
    case y16k1 => (intro w hSw; go_simp; all_goals with_reducible rfl)
    (try simp only [Act.put, List.setIfInBounds_toArray, List.set_cons_zero, List.set_cons_succ])
    refine take_want (i := 17) (v := ?v17k1) rfl (by kernel_rfl) (by kernel_rfl) (by kernel_rfl) (fun _ _ _ h => h) (by rfl) ?y17k1 (by assumption) ?r17k1
    case y17k1 => (intro w hSw; go_simp; all_goals with_reducible rfl)
    (try simp only [Act.put, List.setIfInBounds_toArray, List.set_cons_zero, List.set_cons_succ])
    refine wpAnyH_done (by kernel_rfl) ?_ _
    by_cases hpz : pv = 0
    · have HPZ := Lib.hid hpz
      have z1 : (pv == 0) = true := by rw [beq_iff_eq]; exact hpz
      have HJ1 := Lib.hid (HJA.out _ _ _ HJS.out (grown_none hHeld))
      have HS1 := Lib.hid (show ∀ i (h : i + 1 < Z.length), b0 ≤ i → i < kk → cmpV Z[i].2 Z[i + 1].2 = 0 from fun i h h1 h2 => by
        by_cases e : i = k
        · subst e; rw [HCV.out h, ← HPV.out, HPZ.out]
        · exact HS.out i h h1 (by have := HKK.out; omega))
      clear hHeld hpz
      gi_wp2
      go_roundw
      case rel => exact ⟨b0, kk, rfl, by first | (rw [HKK.out]; done) | (rw [HKK.out]; go_num), by have := HKK.out; omega, by omega, fun h => absurd h (by omega), HS1, HJ1⟩
      case measure => have := HKK.out; simp [intOf] <;> omega
    · have z1 : (pv == 0) = false := by rw [beq_eq_false_iff_ne]; exact hpz
      have HST := Lib.hid (show Stretch Z b0 kk from ⟨by have := HKK.out; omega, by omega, HSS.out, fun h => by simp only [HKE.out]; rw [← HPV.out]; exact hpz⟩)
      clear hpz
      have hj := HJA.out _ _ _ HJS.out (grown_none hHeld)
      revert hj hHeld
      generalize w7 = wk
      intro hHeld hj
      have x0 := (HJB.out _ _ hj).1
      obtain ⟨fn, tmps, assign, body, hy1, hR1⟩ := HY.out b0 kk wk HST.out hj
      have HR1 := Lib.hid hR1
      clear hR1 hj hHeld
      gi_wp2
      try (refine ⟨(fun h => by simp [Fence.wide] at h), ?_⟩)
      refine HR1.out.mono ?_
      rintro e W1 (⟨rfl, hJ1⟩ | ⟨rfl, hJ1⟩)
      · have HJ1 := Lib.hid hJ1
        clear hJ1 hy1
        gi_wp2
        go_roundw
        case rel => exact ⟨kk, kk, by first | rfl | (rw [HKK.out]; go_num), by first | rfl | (rw [HKK.out]; go_num), Nat.le_refl _, by have := HKK.out; omega, fun h => h, Lib.hid (fun i h h1 h2 => absurd h2 (by omega)), HJ1⟩
        case measure => have := HKK.out; simp [intOf] <;> omega
      · have HJ1 := Lib.hid hJ1
        clear hJ1 hy1
        gi_wp2
        try (refine ⟨fun _ h => (by cases h), ?_⟩)
        gi_wp2
        refine bodyPost_ret (results_none rfl _ _ _) rfl ?_
        exact ⟨⟨_, rfl⟩, .inr HJ1.out⟩
end Go.Proofs.YtmmeekmiildliaaGreatDoor
namespace Go.Proofs.YtmmeekmiildliaaGreatDoor
open Go.RowKit
set_option linter.unusedSimpArgs false
set_option linter.unusedVariables false
/-- One row joined with others, one behind the other, or the first error. -/
def joinAll : RV → List RV → RV × Int
  | r, [] => (r, 0)
  | r, b :: L => if (joinR r b).2 = 0 then joinAll (joinR r b).1 L else (RV.zero, (joinR r b).2)
def foldF : Nat → List RV → List RV × Int
  | 0, _ => ([], 0)
  | _ + 1, [] => ([], 0)
  | n + 1, a :: L =>
    if (joinAll a (L.takeWhile (keyV a))).2 = 0 then
      (if (foldF n (L.dropWhile (keyV a))).2 = 0 then ((joinAll a (L.takeWhile (keyV a))).1 :: (foldF n (L.dropWhile (keyV a))).1, 0) else ([], (foldF n (L.dropWhile (keyV a))).2))
    else ([], (joinAll a (L.takeWhile (keyV a))).2)
/-- A sorted list, folded. -/
def foldL (K : List RV) : List RV × Int := foldF K.length K
theorem dropWhile_len {α : Type} (p : α → Bool) (L : List α) : (L.dropWhile p).length ≤ L.length := (List.dropWhile_sublist p).length_le
theorem foldF_fuel : ∀ (n m : Nat) (K : List RV), K.length ≤ n → K.length ≤ m → foldF n K = foldF m K := by
  intro n
  induction n with
  | zero =>
    intro m K h1 h2
    obtain rfl : K = [] := List.eq_nil_of_length_eq_zero (by omega)
    cases m <;> rfl
  | succ n ih =>
    intro m K h1 h2
    cases K with
    | nil => cases m <;> rfl
    | cons a L =>
      cases m with
      | zero => simp at h2
      | succ m =>
        have hl := dropWhile_len (keyV a) L
        rw [foldF, foldF, ih m (L.dropWhile (keyV a)) (by simp at h1; omega) (by simp at h2; omega)]
theorem foldL_cons (a : RV) (L : List RV) : foldL (a :: L) = if (joinAll a (L.takeWhile (keyV a))).2 = 0 then
      (if (foldL (L.dropWhile (keyV a))).2 = 0 then ((joinAll a (L.takeWhile (keyV a))).1 :: (foldL (L.dropWhile (keyV a))).1, 0) else ([], (foldL (L.dropWhile (keyV a))).2))
    else ([], (joinAll a (L.takeWhile (keyV a))).2) := by
  unfold foldL
  rw [List.length_cons, foldF, foldF_fuel L.length (L.dropWhile (keyV a)).length (L.dropWhile (keyV a)) (dropWhile_len _ _) (Nat.le_refl _)]
theorem foldL_err (K : List RV) (h : (foldL K).2 ≠ 0) : (foldL K).1 = [] := by
  cases K with
  | nil => rfl
  | cons a L =>
    rw [foldL_cons] at h ⊢
    by_cases e1 : (joinAll a (L.takeWhile (keyV a))).2 = 0
    · rw [if_pos e1] at h ⊢
      by_cases e2 : (foldL (L.dropWhile (keyV a))).2 = 0
      · rw [if_pos e2] at h; exact absurd rfl h
      · rw [if_neg e2]
    · rw [if_neg e1]
/-- What is folded, and what is yet to be. -/
def FoldSt (K O : List RV) (b : Nat) : Prop := ∀ R e, foldL (K.drop b) = (R, e) → foldL K = if e = 0 then (O ++ R, 0) else ([], e)
theorem FoldSt.start (K : List RV) : FoldSt K [] 0 := by
  intro R e h
  rw [List.drop_zero] at h
  have h2 := foldL_err K
  rw [h] at h2 ⊢
  by_cases he : e = 0
  · rw [if_pos he, he]; rfl
  · rw [if_neg he]; rw [show R = [] from h2 he]
theorem take_drop_while {α : Type} (p : α → Bool) : ∀ (L : List α) (m : Nat), m ≤ L.length → (∀ i (h : i < L.length), i < m → p L[i] = true) → (∀ h : m < L.length, p L[m] = false) → L.takeWhile p = L.take m ∧ L.dropWhile p = L.drop m := by
  intro L
  induction L with
  | nil => intro m hm _ _; simp at hm; subst hm; exact ⟨rfl, rfl⟩
  | cons a L ih =>
    intro m hm h1 h2
    cases m with
    | zero =>
      have := h2 (by simp)
      simp only [List.getElem_cons_zero] at this
      rw [List.takeWhile_cons, List.dropWhile_cons, this]; exact ⟨rfl, rfl⟩
    | succ m =>
      have ha := h1 0 (by simp) (by omega)
      simp only [List.getElem_cons_zero] at ha
      have := ih m (by simpa using hm) (fun i h hi => by have := h1 (i + 1) (by simpa using h) (by omega); simpa using this) (fun h => by have := h2 (by simpa using h); simpa using this)
      rw [List.takeWhile_cons, List.dropWhile_cons, ha]
      simp [this.1, this.2]
theorem keyV_true {a b : RV} : keyV a b = true ↔ cmpV a b = 0 := by simp [keyV]
/-- A stretch of one key. -/
structure StK (K : List RV) (b e : Nat) : Prop where
  lt : b < e
  le : e ≤ K.length
  one : ∀ i (h : i + 1 < K.length), b ≤ i → i + 1 < e → cmpV K[i] K[i + 1] = 0
  out : ∀ h : e < K.length, cmpV (K[e - 1]'(by omega)) K[e] ≠ 0
theorem StK.all {K : List RV} {b e : Nat} (h : StK K b e) : ∀ (j : Nat) (hj : b + j < K.length), b + j < e → cmpV (K[b]'(by omega)) K[b + j] = 0 := by
  intro j
  induction j with
  | zero => intro hj _; exact cmpV_self _
  | succ j ih =>
    intro hj he
    have h1 := ih (by omega) (by omega)
    have h2 := h.one (b + j) (by omega) (by omega) (by omega)
    rw [cmpV_left h1]
    exact h2
theorem StK.cut {K : List RV} {b e : Nat} (h : StK K b e) : (K.drop (b + 1)).takeWhile (keyV (K[b]'(by have := h.lt; have := h.le; omega))) = (K.drop (b + 1)).take (e - (b + 1)) ∧ (K.drop (b + 1)).dropWhile (keyV (K[b]'(by have := h.lt; have := h.le; omega))) = K.drop e := by
  have hlt := h.lt
  have hle := h.le
  have hh := take_drop_while (keyV (K[b]'(by omega))) (K.drop (b + 1)) (e - (b + 1)) (by rw [List.length_drop]; omega) (fun i hi him => ?_) (fun hm => ?_)
  · refine ⟨hh.1, hh.2.trans ?_⟩
    rw [List.drop_drop]; congr 1; omega
  · rw [List.length_drop] at hi
    rw [List.getElem_drop, keyV_true]
    have := h.all (i + 1) (by omega) (by omega)
    simpa [Nat.add_assoc, Nat.add_comm 1 i] using this
  · rw [List.length_drop] at hm
    rw [List.getElem_drop]
    have he : e < K.length := by omega
    have h1 := h.all (e - 1 - b) (by omega) (by omega)
    have h2 := h.out he
    have e1 : b + (e - 1 - b) = e - 1 := by omega
    have e2 : b + 1 + (e - (b + 1)) = e := by omega
    simp only [e1] at h1
    simp only [e2]
    rw [Bool.eq_false_iff, ne_eq, keyV_true]
    intro h3
    rw [cmpV_left h1] at h3
    exact h2 h3
theorem FoldSt.next {K O : List RV} {b e : Nat} (h : FoldSt K O b) (hs : StK K b e) {r : RV} (hj : joinAll (K[b]'(by have := hs.lt; have := hs.le; omega)) ((K.drop (b + 1)).take (e - (b + 1))) = (r, 0)) : FoldSt K (O ++ [r]) e := by
  intro R x hr
  have hlt := hs.lt
  have hle := hs.le
  have hc := hs.cut
  have := h (if x = 0 then r :: R else []) x (by
    rw [List.drop_eq_getElem_cons (by omega), foldL_cons, hc.1, hc.2, hj, hr, if_pos rfl]
    by_cases hx : x = 0
    · simp [hx]
    · simp [hx])
  by_cases hx : x = 0
  · simpa [hx] using this
  · simpa [hx] using this
theorem FoldSt.bad {K O : List RV} {b e : Nat} (h : FoldSt K O b) (hs : StK K b e) {r : RV} {x : Int} (hx : x ≠ 0) (hj : joinAll (K[b]'(by have := hs.lt; have := hs.le; omega)) ((K.drop (b + 1)).take (e - (b + 1))) = (r, x)) : foldL K = ([], x) := by
  have hlt := hs.lt
  have hle := hs.le
  have hc := hs.cut
  have := h [] x (by rw [List.drop_eq_getElem_cons (by omega), foldL_cons, hc.1, hj, if_neg hx])
  simpa [hx] using this
theorem FoldSt.fin {K O : List RV} (h : FoldSt K O K.length) : foldL K = (O, 0) := by
  have := h [] 0 (by rw [List.drop_length]; rfl)
  simpa using this
/-- What is joined, and what is yet to be. -/
def AllSt (a : RV) (g : List RV) (r : RV) (k : Nat) : Prop := joinAll r (g.drop k) = joinAll a g
theorem AllSt.start (a : RV) (g : List RV) : AllSt a g a 0 := by unfold AllSt; rw [List.drop_zero]
theorem AllSt.next {a r : RV} {g : List RV} {k : Nat} (h : AllSt a g r k) (hk : k < g.length) {z : RV} (hz : joinR r g[k] = (z, 0)) : AllSt a g z (k + 1) := by
  unfold AllSt at *
  rw [List.drop_eq_getElem_cons hk, joinAll, hz, if_pos rfl] at h
  exact h
theorem AllSt.bad {a r : RV} {g : List RV} {k : Nat} (h : AllSt a g r k) (hk : k < g.length) {z : RV} {x : Int} (hx : x ≠ 0) (hz : joinR r g[k] = (z, x)) : joinAll a g = (RV.zero, x) := by
  unfold AllSt at h
  rw [List.drop_eq_getElem_cons hk, joinAll, hz, if_neg hx] at h
  exact h.symm
theorem AllSt.fin {a r : RV} {g : List RV} (h : AllSt a g r g.length) : joinAll a g = (r, 0) := by
  unfold AllSt at h
  rw [List.drop_length, joinAll] at h
  exact h.symm
theorem joinR_count {a b : RV} (h : (joinR a b).2 = 0) (ha : 0 ≤ a.count) (hb : 0 ≤ b.count) : 0 ≤ (joinR a b).1.count ∧ (joinR a b).1.count ≤ 1048576 := by
  unfold joinR at h ⊢
  by_cases h1 : cmpV a b = 0 ∧ a.aggs.length = b.aggs.length
  · rw [if_pos h1] at h ⊢
    by_cases h2 : 1048576 < a.count + b.count
    · rw [if_pos h2]; exact ⟨Int.le_refl _, by show (0 : Int) ≤ 1048576; decide⟩
    · rw [if_neg h2] at h ⊢
      by_cases h3 : (joinG a.aggs b.aggs).2 = 0
      · rw [if_pos h3]; exact ⟨by show 0 ≤ a.count + b.count; omega, by show a.count + b.count ≤ _; omega⟩
      · rw [if_neg h3]; exact ⟨Int.le_refl _, by show (0 : Int) ≤ 1048576; decide⟩
  · rw [if_neg h1]; exact ⟨Int.le_refl _, by show (0 : Int) ≤ 1048576; decide⟩
end Go.Proofs.YtmmeekmiildliaaGreatDoor
namespace Go.Proofs.YtmmeekmiildliaaGreatDoor
open Go.RowKit Go.Shelf
set_option linter.unusedSimpArgs false
set_option linter.unusedVariables false
attribute [local go_sem] Oper.semAt_some
theorem own_sliceR {B : Nat} {w : World} {v : Value} {n : Nat} {L : List RZ} (h : w.ownsRow B 59 4 v n (cellsR L)) : n = L.length ∧ ∃ A c, v = .slice A n c ∧ Row w A (cellsR L) ∧ n ≤ c ∧ c ≤ maxLen ∧ (A = none → c = 0) := by
  have hn : n = L.length := by have := h.1; rw [cellsR_length] at this; omega
  refine ⟨hn, ?_⟩
  rcases h.2 with ⟨rfl, h0⟩ | ⟨g, cap, cur, rfl, _, hc, h1, h2, h3, h4⟩
  · have hz0 : L = [] := List.length_eq_zero_iff.1 (by omega)
    exact ⟨none, 0, by rw [h0], .inl (by rw [hz0]; rfl), by omega, Nat.zero_le _, fun _ => rfl⟩
  · refine ⟨_, cap, rfl, ?_, h1, h2, fun h => by cases h⟩
    refine .inr ⟨g, 0, rfl, fun i u hu => ?_⟩
    rw [Nat.zero_add]
    have hcc : w.cell? ⟨g, i, none⟩ = cur[i]? := by simp [World.cell?, hc]
    rw [hcc, ← hu, ← h4, List.getElem?_take, Array.getElem?_toList, if_pos]
    rcases Nat.lt_or_ge i (n * 4) with h | h
    · exact h
    · rw [List.getElem?_eq_none (by rw [cellsR_length]; omega)] at hu; cases hu
theorem slice_tail (b off n c : Nat) (h1 : 1 ≤ n) (W : World) : Sem.run Tryz.prog (Instr.slice 46 (.slice (some ⟨b, off, none⟩) n c) (some (.int .i64 1)) none none) W = .ok (.slice (some ⟨b, if c = 1 then off else off + 4, none⟩) (n - 1) (c - 1)) W := by
  have hs : ∀ W, Sem.run Tryz.prog (Go.sizeOf (Tryz.prog.elem 46)) W = .ok 4 W := fun _ => by kernel_rfl
  have e : Tryz.prog.elem 46 = 59 := by kernel_rfl
  rw [run_slice_l W 46 (some ⟨b, off, none⟩) n c (by rw [e]; exact Tryz.underlying46) .i64 1 (by omega) (by omega), hs]
  have e2 : (⟨b, off, none⟩ : Addr).add 4 = ⟨b, off + 4, none⟩ := rfl
  have e3 : (1 : Int).toNat * 4 = 4 := rfl
  simp only [Result.andThen, sliced, Option.map_some, e3, e2]
  have e4 : (1 : Int).toNat = 1 := rfl
  rw [e4]
  split <;> rfl
theorem Stretch.stK {Z : List RZ} {b e : Nat} (h : Stretch Z b e) : StK (Z.map Prod.snd) b e := by
  obtain ⟨h1, h2, h3, h4⟩ := h
  exact ⟨h1, by simpa using h2, fun i hi hb he => by simpa using h3 i (by simpa using hi) hb he, fun he => by simpa using h4 (by simpa using he)⟩
theorem Owned.setB {B g o : Nat} {W : World} {z : RZ} {t : TypeId} {cs : Array Value} {u : Value} (h : Owned B W z) (hb : Blk W g t cs) (h9 : t ≠ 9) (h51 : t ≠ 64) : Owned B (W.setCell ⟨g, o, none⟩ u) z :=
  ⟨own_set' h.d (h.d.not_blk hb h9), own_set' h.g (h.g.not_blk hb h51), h.sd, h.sg⟩
/-- What Fold keeps between two rounds. -/
structure Fd (w W3 : World) (ob : Nat) (v : Value) (Y : List RZ) (W : World) : Prop where
  b : Blk W ob 46 #[v]
  near : Near ob (ob + 2) W3 W
  own : W.ownsRow (ob + 2) 59 4 v Y.length (cellsR Y)
  ys : ∀ y ∈ Y, Good w y ∨ Owned (ob + 2) W y
section
variable {w W3 W W' : World} {ob : Nat} {v : Value} {Y : List RZ}
theorem Fd.none (h : Fd w W3 ob v Y W) (hs : ob + 2 ≤ W.heap.size) (hg : W.grownBy W' none) : Fd w W3 ob v Y W' :=
  ⟨h.b.grown hg (by simp), h.near.trans ⟨hg.os, hg.tape, hg.output, hg.size, fun i hi _ => hg.block i (by omega) (by simp)⟩, h.own.kept hg (by cases v.ownBlock <;> simp),
    fun y hy => (h.ys y hy).imp id fun k => k.grown hg (fun g e => by cases e)⟩
theorem Fd.loop {l : Nat} {r : Loop} (h : Fd w W3 ob v Y W) (hl : W.heap[l]? = some (.loop r)) (hlw : ob + 2 ≤ l) (o : Obj) : Fd w W3 ob v Y (W.putObj l o) := by
  have hg := grownBy_putObj' W l o
  exact ⟨h.b.grown hg (fun e => loop_not_blk hl h.b (Option.some.inj e)), h.near.trans ⟨hg.os, hg.tape, hg.output, hg.size, fun i hi _ => hg.block i (by have := lt_of_heap hl; omega) (fun e => by have := Option.some.inj e; omega)⟩,
    h.own.kept hg (.inr (own_not_loop h.own hl)),
    fun y hy => (h.ys y hy).imp id fun k => k.grown hg (fun g e => by cases e; exact ⟨own_not_loop k.d hl, own_not_loop k.g hl⟩)⟩
theorem Fd.append {v' : Value} {z : RZ} (h : Fd w W3 ob v Y W) (hs : ob + 2 ≤ W.heap.size) (hg : W.grownBy W' v.ownBlock) (ho : W'.ownsRow (ob + 2) 59 4 v' (Y.length + 1) (cellsR (Y ++ [z]))) (hz : Good w z ∨ Owned (ob + 2) W z) : Fd w W3 ob v' (Y ++ [z]) (W'.setCell ⟨ob, 0, Option.none⟩ v') := by
  have hb' := h.b.grown hg (h.own.not_blk h.b (by decide))
  have hne : ∀ y, Good w y ∨ Owned (ob + 2) W y → Good w y ∨ Owned (ob + 2) W' y := fun y hy => hy.imp id fun k => ⟨k.d.kept hg (own_not_own k.d h.own (by decide)), k.g.kept hg (own_not_own k.g h.own (by decide)), k.sd, k.sg⟩
  have hgs : W'.grownBy (W'.setCell ⟨ob, 0, Option.none⟩ v') (some ob) := ⟨rfl, rfl, rfl, by simp [World.setCell], fun i hi hne => Below.heap_setCell W' _ _ i (fun e => hne (by rw [e]))⟩
  refine ⟨by have := hb'.set_ 0 v'; simpa using this, ?_, ?_, ?_⟩
  · refine (h.near.trans ⟨hg.os, hg.tape, hg.output, hg.size, fun i hi _ => hg.block i (by omega) (fun e => ?_)⟩).set (.inl rfl) v'
    have := (h.own.lt i e.symm).1
    omega
  · have := ho.kept hgs (.inr (ho.not_blk hb' (by decide)))
    rw [List.length_append]; exact this
  · intro y hy
    have hy' : Good w y ∨ Owned (ob + 2) W' y := by
      rcases List.mem_append.1 hy with h1 | h1
      · exact hne y (h.ys y h1)
      · rw [List.mem_singleton.1 h1]; exact hne z hz
    exact hy'.imp id fun k => k.grown hgs (fun g e => by cases e; exact ⟨k.d.not_blk hb' (by decide), k.g.not_blk hb' (by decide)⟩)
end
theorem Blk.below {w w' : World} {g B : Nat} {t : TypeId} {cs : Array Value} (h : Blk w g t cs) (hb : Below B w w') (hg : g < B) : Blk w' g t cs := (hb.block g hg).trans h
def FoldPost (w : World) (Z : List RZ) (e : Ending) (w' : World) : Prop := ∃ v Y x K', e = .returned (.tuple #[v, .int .i64 x]) ∧ SortsTo (Z.map Prod.snd) K' ∧ foldL K' = (Y.map Prod.snd, x) ∧ w'.ownsRow w.heap.size 59 4 v Y.length (cellsR Y) ∧ (∀ y ∈ Y, Owned w.heap.size w' y) ∧ Below w.heap.size w w'
set_option maxRecDepth 100000 in
set_option maxHeartbeats 16000000 in
theorem fold_few (A : Option Addr) (n c : Nat) (Z : List RZ) (w : World) (hA : RowsC w A Z) (hn : n = Z.length) (hnc : n ≤ c) (ha : A = none → c = 0) (h1 : 1 ≤ n) (h19 : n ≤ 19) (hct : ∀ z ∈ Z, 0 ≤ z.2.count ∧ z.2.count ≤ 1048576) :
    Calls Tryz.prog 24 #[.slice A n c] w (FoldPost w Z) := by
  refine (callsIn_wide (n := 9)).1 ?_
  have HA := Lib.hid hA
  have HN := Lib.hid hn
  have HNC := Lib.hid hnc
  have HAN := Lib.hid ha
  have HCT := Lib.hid hct
  obtain ⟨i0, hi0, hz0, hz1, hz2⟩ := info_parts info27
  clear hA hn hnc ha hct
  refine callsIn_of_wp_marks Tryz.func24 rfl trivial ?_ rfl
  simp only [Tryz.ntmps24, List.size_toArray, List.length_cons, List.length_nil, Nat.reduceAdd, Nat.reduceSub, Array.replicate_succ, Array.replicate_zero, List.push_toArray, List.append_toArray, List.nil_append, List.cons_append]
  gi_wp2
  obtain ⟨W1, hW1⟩ : ∃ W1, W1 = (w.alloc (.cells #[.slice none 0 0] 46)).alloc (.cells #[.int .i64 0] 34) := ⟨_, rfl⟩
  have hb1 : Below w.heap.size w W1 := by rw [hW1]; exact bpush (bpush (Below.refl _ _) _) _
  have hs1 : W1.heap.size = w.heap.size + 2 := by rw [hW1]; simp
  have HR2 := Lib.hid (show Blk W1 w.heap.size 46 #[.slice none 0 0] by rw [hW1]; exact (Blk.new w 46 _).alloc _)
  have HR3 := Lib.hid (show Blk W1 (w.heap.size + 1) 34 #[.int .i64 0] by rw [hW1]; have := Blk.new (w.alloc (.cells #[.slice none 0 0] 46)) 34 #[.int .i64 0]; simpa using this)
  rw [← hW1]
  have HB1 := Lib.hid hb1
  clear hW1 hb1
  refine ⟨trivial, (callsIn_wide.2 (cloneR_any A n c (cellsR Z) W1 (HA.out.row.keep (Nat.le_refl _) HB1.out) (by rw [cellsR_length, HN.out]) (one_cellsR Z) HNC.out HAN.out (by omega))).mono ?_⟩
  rintro e w2 ⟨D, k, rfl, ho2, hb2⟩
  have hD : ∃ blk, D = some ⟨blk, 0, none⟩ ∧ W1.heap.size ≤ blk ∧ n ≤ k := by
    rcases ho2.2 with ⟨_, h0⟩ | ⟨g, cap, cur, he, hbb, _, hcap, _⟩
    · omega
    · cases he; exact ⟨g, rfl, hbb, hcap⟩
  obtain ⟨blk, rfl, hbk, hnk⟩ := hD
  have HO2 := Lib.hid ho2
  have HB2 := Lib.hid (bthen HB1.out hb2)
  have HR2 := Lib.hid (HR2.out.below hb2 (by omega))
  have HR3 := Lib.hid (HR3.out.below hb2 (by omega))
  have hs2 : W1.heap.size ≤ w2.heap.size := hb2.size
  clear ho2 hb2
  gi_wp2
  refine ⟨trivial, (callsIn_wide.2 (sort_rows w w2 W1.heap.size blk n k Z HB2.out (by omega) HA.out.good HN.out h19 HO2.out)).mono ?_⟩
  rintro e w3 ⟨rfl, Z', hst, hg', hl', hrow', hb3⟩
  have HB3 := Lib.hid (HB2.out.trans (hb3.mono (show w.heap.size ≤ blk by omega)))
  have HR2 := Lib.hid (HR2.out.below hb3 (by omega))
  have HR3 := Lib.hid (HR3.out.below hb3 (by omega))
  have HST := Lib.hid hst
  have HG := Lib.hid hg'
  have HL := Lib.hid hl'
  have HROW := Lib.hid hrow'
  have hblk : blk < w3.heap.size := by
    rcases hrow' with h0 | ⟨b, off, he, hc⟩
    · have := cellsR_length Z'; rw [h0, hl'] at this; simp at this; omega
    · cases he
      obtain ⟨b', off', he', c0, _⟩ := row4 (k := 0) (.inr ⟨blk, 0, rfl, hc⟩ : Row w3 (some ⟨blk, 0, none⟩) (cellsR Z')) (by omega)
      cases he'; exact lt_of_cell c0
  have hs3 : w.heap.size + 2 ≤ w3.heap.size := by omega
  clear hst hg' hl' hrow' hb3 HO2
  gi_wp2
  refine ⟨trivial, (callsIn_wide.2 (keys_maker (some ⟨blk, 0, none⟩) n k _)).mono ?_⟩
  rintro e w4 ⟨rfl, rfl⟩
  gi_wp2
  obtain ⟨W3, hW3⟩ : ∃ W3, (w3.alloc (.cells #[.slice none 0 0] 46)).alloc (.cells #[.slice (some ⟨blk, 0, none⟩) n k] 46) = W3 := ⟨_, rfl⟩
  obtain ⟨ob, hob⟩ : ∃ ob, ob = w3.heap.size := ⟨_, rfl⟩
  have hsz3 : W3.heap.size = ob + 2 := by rw [← hW3, hob]; simp
  have hb43 : Below w3.heap.size w3 W3 := by rw [← hW3]; exact bpush (bpush (Below.refl _ _) _) _
  have HFD := Lib.hid (show Fd w W3 ob (.slice none 0 0) [] W3 from ⟨by rw [← hW3, hob]; exact (Blk.new w3 46 _).alloc _, Near.refl _ _ _, World.ownsRow_nil _ _ _ _, fun y hy => by cases hy⟩)
  have HBS := Lib.hid (show Blk W3 (ob + 1) 46 #[.slice (some ⟨blk, 0, none⟩) n k] by rw [← hW3, hob]; have := Blk.new (w3.alloc (.cells #[.slice none 0 0] 46)) 46 #[.slice (some ⟨blk, 0, none⟩) n k]; simpa using this)
  have HR2 := Lib.hid (HR2.out.below hb43 (by omega))
  have HR3 := Lib.hid (HR3.out.below hb43 (by omega))
  have HROW := Lib.hid (HROW.out.keep (Nat.le_refl _) hb43)
  have HBW := Lib.hid (bthen HB3.out hb43)
  have hob1 : w.heap.size + 2 ≤ ob := by omega
  have hob2 : blk < ob := by omega
  rw [hW3, ← hob]
  clear hW3 hob hb43 HB3 HB2 HB1 hblk hs3 hs2 hs1
  obtain ⟨K', hK'⟩ : ∃ K', K' = Z'.map Prod.snd := ⟨_, rfl⟩
  have HK := Lib.hid hK'
  have HKL := Lib.hid (show K'.length = n by rw [hK', List.length_map, HL.out])
  have HCZ := Lib.hid (show ∀ i (h : i < Z'.length), 0 ≤ Z'[i].2.count ∧ Z'[i].2.count ≤ 1048576 from fun i h => by
    have hm : Z'[i].2 ∈ Z'.map Prod.snd := List.mem_map.2 ⟨_, List.getElem_mem h, rfl⟩
    have hm2 := HST.out.mem hm
    obtain ⟨z, hz, he⟩ := List.mem_map.1 hm2
    have := HCT.out z hz
    rw [he] at this
    exact this)
  rw [← hK'] at HST
  clear hK'
  refine range_rec (by omega) (gf := 88) (lb := #[.pointer (some ⟨ob + 1, 0, none⟩)]) rfl (enters_of Tryz.func88 (by kernel_rfl) rfl) ?_
  intro fn rec hrec
  rw [hsz3] at hrec ⊢
  have HLDJ : ∀ v Y W, Fd w W3 ob v Y W → W.cell? ⟨ob + 1, 0, none⟩ = some (.slice (some ⟨blk, 0, none⟩) n k) ∧ Row W (some ⟨blk, 0, none⟩) (cellsR Z') ∧ Below w.heap.size w W := fun v Y W h => by
    have h1 : Blk W (ob + 1) 46 #[.slice (some ⟨blk, 0, none⟩) n k] := (h.near.block (ob + 1) (by omega) (by omega)).trans HBS.out
    have h2 := h1.cell 0
    exact ⟨by simpa using h2, h.near.row HROW.out (by omega) (fun b off e => by cases e; omega), HBW.out.trans (h.near.below (by omega) (by omega))⟩
  have HLD := Lib.hid HLDJ
  clear HLDJ
  refine CallsIn.mono (keys_in 8 (ob + 2 + 1) (ob + 1) n k blk Z' (by rw [HL.out]) (by omega) hnk
    (fun k W => W.heap[ob + 2 + 1]? = some (.loop (rec .ready none)) ∧ W.heap[ob + 2]? = some (.deferred (some [])) ∧ ∃ v Y, Fd w W3 ob v Y W ∧ Y.length ≤ k ∧ FoldSt K' (Y.map Prod.snd) k)
    (fun W => W.heap[ob + 2 + 1]? = some (.loop (rec .done (some .ret))) ∧ W.heap[ob + 2]? = some (.deferred (some [])) ∧ ∃ x : Int, x ≠ 0 ∧ Blk W w.heap.size 46 #[.slice none 0 0] ∧ Blk W (w.heap.size + 1) 34 #[.int .i64 x] ∧ Below w.heap.size w W ∧ foldL K' = ([], x))
    ?pays ?allocs ?round _ ?start) ?post
  case pays =>
    rintro k W ⟨_, _, v, Y, h, _⟩
    obtain ⟨h1, h2, h3⟩ := HLD.out _ _ _ h
    exact ⟨h1, h2, fun z hz => (HG.out z hz).keep h3⟩
  case allocs =>
    rintro k W W' ⟨h1, h2, v, Y, h3, h4⟩ hg
    exact ⟨(hg.block _ (lt_of_heap h1) (by simp)).trans h1, (hg.block _ (lt_of_heap h2) (by simp)).trans h2, v, Y, h3.none (by have := lt_of_heap h1; omega) hg, h4⟩
  case start =>
    refine ⟨?_, ?_, _, [], (HFD.out.none (by omega) (World.grownBy_alloc _ _ none)).none (by simp; omega) (World.grownBy_alloc _ _ none), by simp, FoldSt.start _⟩
    · have := World.alloc_heap_new (W3.alloc (.deferred (some []))) (.loop (rec .ready none))
      rw [World.size_alloc, hsz3] at this
      exact this
    · have := World.alloc_heap_new W3 (.deferred (some []))
      rw [hsz3] at this
      exact (Below.heap_alloc _ _ _ (by simp; omega)).trans this
  case round =>
    rintro b e W hsb ⟨hL, hD, v, Y, hfd, hyl, hfs⟩
    obtain ⟨hbe, hez, hs3', hs4'⟩ := id hsb
    have HSK := Lib.hid (show StK K' b e by rw [HK.out]; exact hsb.stK)
    obtain ⟨hc1, hrow, hbw⟩ := HLD.out _ _ _ hfd
    have hbz : b < Z'.length := by omega
    obtain ⟨m, hm⟩ : ∃ m, m = e - b := ⟨_, rfl⟩
    obtain ⟨q, hq⟩ : ∃ q, q = k - b := ⟨_, rfl⟩
    have hm1 : 1 ≤ m := by omega
    have hmq : m ≤ q := by have := HL.out; omega
    have hm9 : m ≤ 19 := by have := HL.out; omega
    have hb9 : b < 19 := by have := HL.out; omega
    obtain ⟨oo, hoo⟩ : ∃ oo, oo = if q = 1 then b * 4 else b * 4 + 4 := ⟨_, rfl⟩
    have sl := slice_tail blk (b * 4) m q hm1
    rw [← hoo] at sl
    rw [← hm, ← hq]
    obtain ⟨V, hV⟩ : ∃ V, W.putObj (ob + 2 + 1) (.loop (rec .busy none)) = V := ⟨_, rfl⟩
    have hfv := hfd.loop hL (by omega) (.loop (rec .busy none))
    rw [hV] at hfv
    have HFD := Lib.hid hfv
    have HLP := Lib.hid (show V.heap[ob + 2 + 1]? = some (.loop (rec .busy none)) by rw [← hV]; exact put_loop hL _)
    have HDF := Lib.hid (show V.heap[ob + 2]? = some (.deferred (some [])) by rw [← hV]; exact (World.putObj_heap_other (by omega)).trans hD)
    have HLW := Lib.hid hL
    have HV := Lib.hid hV
    have HYL := Lib.hid hyl
    have HFS := Lib.hid hfs
    have HBE := Lib.hid (show b < e ∧ e ≤ Z'.length ∧ m = e - b ∧ q = k - b from ⟨hbe, hez, hm, hq⟩)
    have HOO := Lib.hid hoo
    have HBZ := Lib.hid hbz
    have hLr := hL
    refine round_rec hrec hLr rfl ?_
    clear hfd hyl hfs hfv hL hD hV hc1 hrow hbw hrec hsb hbe hez hs3' hs4' hm hq hoo
    gi_wp2
    refine ⟨HLW.out, ?_⟩
    rw [HV.out]
    clear HV HLW
    obtain ⟨hc1, hrow, hbw⟩ := HLD.out _ _ _ HFD.out
    obtain ⟨bb, oo2, he2, p0, p1, p2, p3⟩ := row4 hrow HBZ.out
    cases he2
    simp only [Nat.zero_add] at p0 p1 p2 p3
    obtain ⟨⟨⟨D0, n0, c0, G0, gn0, gc0⟩, ⟨t0, L0, u0, X0⟩⟩, hz0'⟩ : ∃ z, z = Z'[b]'HBZ.out := ⟨_, rfl⟩
    rw [← hz0'] at p0 p1 p2 p3
    simp only at p0 p1 p2 p3
    have HZ0 := Lib.hid hz0'
    have hmi : (0 : Int) < (m : Int) := by omega
    clear hz0' hc1 hrow
    have HKB := Lib.hid (show ∀ h : b < K'.length, K'[b] = ⟨t0, L0, u0, X0⟩ from fun h => by
      have h2 : K' = Z'.map Prod.snd := HK.out
      subst h2
      rw [List.getElem_map, ← HZ0.out])
    have HCB := Lib.hid (show 0 ≤ u0 ∧ u0 ≤ 1048576 by have := HCZ.out b HBZ.out; rw [← HZ0.out] at this; exact this)
    have HGB := Lib.hid (show Good w (⟨D0, n0, c0, G0, gn0, gc0⟩, ⟨t0, L0, u0, X0⟩) by rw [HZ0.out]; exact HG.out _ (List.getElem_mem HBZ.out))
    have hvz : ob + 2 + 1 < V.heap.size := lt_of_heap HLP.out
    obtain ⟨Gp, hGp⟩ : ∃ Gp, Gp = (K'.drop (b + 1)).take (e - (b + 1)) := ⟨_, rfl⟩
    have HGP := Lib.hid hGp
    have HGL := Lib.hid (show Gp.length = m - 1 by rw [hGp, List.length_take, List.length_drop, HKL.out]; have h := HBE.out; have h2 := HL.out; omega)
    clear hGp
    gi_wp2
    clear p0 p1 p2 p3
    gi_loopw [8, 9, 23] (fun q8 q9 i wr => ∃ (k0 : Nat) (z : RZ), i = .int .i64 (k0 : Int) ∧ k0 ≤ m - 1 ∧ V.heap.size + 1 ≤ wr.heap.size ∧ Hid (Bx4 wr V.heap.size (.int .i64 z.2.t) (.slice z.1.D z.1.n z.1.c) (.int .i64 z.2.count) (.slice z.1.G z.1.gn z.1.gc)) ∧ Hid (Below V.heap.size V wr) ∧ Hid (Good w z ∨ Owned (V.heap.size + 1) wr z) ∧ Hid (0 ≤ z.2.count ∧ z.2.count ≤ 1048576) ∧ Hid (AllSt ⟨t0, L0, u0, X0⟩ Gp z.2 k0)) (fun _ _ i _ => m - 1 - (intOf i).toNat)
    case atStart => exact ⟨0, (⟨D0, n0, c0, G0, gn0, gc0⟩, ⟨t0, L0, u0, X0⟩), rfl, Nat.zero_le _, by simp, Lib.hid Bx4.made, Lib.hid (bpush (Below.refl _ _) _), Lib.hid (.inl HGB.out), HCB, Lib.hid (AllSt.start _ _)⟩
    case round =>
      obtain ⟨k0, ⟨⟨D1, n1, c1, G1, gn1, gc1⟩, ⟨t1, L1, u1, X1⟩⟩, rfl, hk, hgw, HBX, HBV, HGO, HCN, HAS⟩ := hrel
      simp only at HBX HCN HAS
      have HFR := Lib.hid (HFD.out.none (by omega) (grown_none HBV.out))
      have HLR := Lib.hid ((HBV.out.block _ (by omega)).trans HLP.out)
      have HDR := Lib.hid ((HBV.out.block _ (by omega)).trans HDF.out)
      obtain ⟨hc1, hrow, hbw⟩ := HLD.out _ _ _ HFR.out
      have HBWR := Lib.hid hbw
      have HRWR := Lib.hid hrow
      clear hc1 hrow hbw
      obtain ⟨e0, e1, e2, e3, ef⟩ := HBX.out
      by_cases hlt : k0 < m - 1
      case neg =>
        have hki : ¬ ((k0 : Int) < ((m - 1 : Nat) : Int)) := by omega
        have HJN := Lib.hid (show joinAll (K'[b]'(by rw [HKL.out]; have h8 := HBE.out; have h9 := HL.out; omega)) ((K'.drop (b + 1)).take (e - (b + 1))) = (⟨t1, L1, u1, X1⟩, 0) by
          have h := HAS.out
          rw [show k0 = Gp.length by rw [HGL.out]; omega] at h
          have h2 := h.fin
          rw [HKB.out (by rw [HKL.out]; have h8 := HBE.out; have h9 := HL.out; omega), ← HGP.out]
          exact h2)
        clear hlt
        have b0 := HFR.out.b.cell 0
        simp at b0
        have hYb : Y.length ≤ 19 := by have := HYL.out; omega
        gi_wp2_with (gi_at_builtin; refine wpListIn_append_own _ rfl _ _ 46 rfl (ob + 2) 59 i0 (.agg #[.int .i64 0, .slice none 0 0, .int .i64 0, .slice none 0 0]) 4 64 Tryz.underlying46 hi0 hz0 hz1 hz2 rfl (by decide) v Y.length (cellsR Y) rfl (HFR.out.own.alloc _) ⟨wr.heap.size, 0, none⟩ 1 1 [.int .i64 t1, .slice D1 n1 c1, .int .i64 u1, .slice G1 gn1 gc1] rfl rfl (Row.made rfl rfl).at' (by intro u hu; simp at hu; rcases hu with rfl | rfl | rfl | rfl <;> rfl) (by unfold maxLen; omega) (by omega) (by simp; omega) ?_)
        intro v5 w5 ho5 hg5 _
        have ho6 : w5.ownsRow (ob + 2) 59 4 v5 (Y.length + 1) (cellsR (Y ++ [(⟨D1, n1, c1, G1, gn1, gc1⟩, ⟨t1, L1, u1, X1⟩)])) := by rw [cellsR_app]; exact ho5
        obtain ⟨A5, c5, rfl⟩ := own_is ho6
        have hga := World.grownBy_alloc wr (.cells #[.int .i64 t1, .slice D1 n1 c1, .int .i64 u1, .slice G1 gn1 gc1] 59) none
        have hfa := HFR.out.none (by omega) hga
        have hla := (hga.block _ (lt_of_heap HLR.out) (by simp)).trans HLR.out
        have hda := (hga.block _ (lt_of_heap HDR.out) (by simp)).trans HDR.out
        have hgo : Good w (⟨D1, n1, c1, G1, gn1, gc1⟩, ⟨t1, L1, u1, X1⟩) ∨ Owned (ob + 2) (wr.alloc (.cells #[.int .i64 t1, .slice D1 n1 c1, .int .i64 u1, .slice G1 gn1 gc1] 59)) (⟨D1, n1, c1, G1, gn1, gc1⟩, ⟨t1, L1, u1, X1⟩) := HGO.out.imp id fun k => (k.less (by omega)).grown hga (fun g e => by cases e)
        have hbl : Blk w5 ob 46 #[v] := hfa.b.grown hg5 (hfa.own.not_blk hfa.b (by decide))
        have hlp5 : w5.heap[ob + 2 + 1]? = some (.loop (rec .busy none)) := (hg5.block _ (lt_of_heap hla) (Ne.symm (own_not_loop hfa.own hla))).trans hla
        have hdf5 : w5.heap[ob + 2]? = some (.deferred (some [])) := (hg5.block _ (lt_of_heap hda) (Ne.symm (own_not_def hfa.own hda))).trans hda
        have HLP5 := Lib.hid (show (w5.setCell ⟨ob, 0, none⟩ (.slice A5 (Y.length + 1) c5)).heap[ob + 2 + 1]? = some (.loop (rec .busy none)) from (Below.heap_setCell w5 ⟨ob, 0, none⟩ _ _ (by simp; omega)).trans hlp5)
        have HDF5 := Lib.hid (show (w5.setCell ⟨ob, 0, none⟩ (.slice A5 (Y.length + 1) c5)).heap[ob + 2]? = some (.deferred (some [])) from (Below.heap_setCell w5 ⟨ob, 0, none⟩ _ _ (by simp)).trans hdf5)
        have HFD5 := Lib.hid (hfa.append (by simp; omega) hg5 ho6 hgo)
        have b0 := hbl.cell 0
        have bf := hbl.frozen 0
        simp at b0
        clear ho5 hg5 ho6 hga hfa hla hda hgo hbl hlp5 hdf5 e0 e1 e2 e3 ef
        gi_wp2
        exact ⟨HLP5.out, .inl ⟨rfl, put_loop HLP5.out _, (World.putObj_heap_other (by omega)).trans HDF5.out, _, _, HFD5.out.loop HLP5.out (by omega) _, by rw [List.length_append]; have := HYL.out; have := HBE.out; simp; omega, by rw [List.map_append]; exact HFS.out.next HSK.out HJN.out⟩⟩
      case pos =>
      have hki : (k0 : Int) < ((m - 1 : Nat) : Int) := by omega
      have hk00 : (0 : Int) ≤ (k0 : Int) := by omega
      have hbk : b + 1 + k0 < Z'.length := by have := HBE.out; omega
      have hkg : k0 < Gp.length := by rw [HGL.out]; exact hlt
      obtain ⟨bb, oo2, he2, p0, p1, p2, p3⟩ := row4 HRWR.out hbk
      cases he2
      have hof : 0 + (b + 1 + k0) * 4 = oo + k0 * 4 := by have h := HOO.out; rw [if_neg (by omega)] at h; omega
      rw [hof] at p0 p1 p2 p3
      obtain ⟨⟨⟨D2, n2, c2, G2, gn2, gc2⟩, ⟨t2, L2, u2, X2⟩⟩, hz2'⟩ : ∃ z, z = Z'[b + 1 + k0] := ⟨_, rfl⟩
      rw [← hz2'] at p0 p1 p2 p3
      simp only at p0 p1 p2 p3
      have HG2 := Lib.hid (show Good w (⟨D2, n2, c2, G2, gn2, gc2⟩, ⟨t2, L2, u2, X2⟩) by rw [hz2']; exact HG.out _ (List.getElem_mem hbk))
      have HC2 := Lib.hid (show 0 ≤ u2 ∧ u2 ≤ 1048576 by have := HCZ.out _ hbk; rw [← hz2'] at this; exact this)
      have HGE := Lib.hid (show Gp[k0] = ⟨t2, L2, u2, X2⟩ by
        have h2 : K' = Z'.map Prod.snd := HK.out
        have h3 := HGP.out
        subst h2 h3
        rw [List.getElem_take, List.getElem_drop, List.getElem_map, ← hz2'])
      obtain ⟨⟨rr, x⟩, hrj⟩ : ∃ r, r = joinR ⟨t1, L1, u1, X1⟩ ⟨t2, L2, u2, X2⟩ := ⟨_, rfl⟩
      have HRJ := Lib.hid hrj
      obtain ⟨wa, hwa⟩ : ∃ wa, wa = wr.alloc (.cells #[.int .i64 t2, .slice D2 n2 c2, .int .i64 u2, .slice G2 gn2 gc2] 59) := ⟨_, rfl⟩
      have hba : Below wr.heap.size wr wa := by rw [hwa]; exact bpush (Below.refl _ _) _
      have HJC := Lib.hid (show Calls Tryz.prog 46 #[.agg #[.int .i64 t1, .slice D1 n1 c1, .int .i64 u1, .slice G1 gn1 gc1], .agg #[.int .i64 t2, .slice D2 n2 c2, .int .i64 u2, .slice G2 gn2 gc2]] wa (JoinPost wa (rr, x)) by
        rw [hrj]
        exact join_any (⟨D1, n1, c1, G1, gn1, gc1⟩, ⟨t1, L1, u1, X1⟩) (⟨D2, n2, c2, G2, gn2, gc2⟩, ⟨t2, L2, u2, X2⟩) wa
          (by rcases HGO.out with h | h; exact h.keep (HBWR.out.trans (hba.mono HBWR.out.size)); exact h.good.keep hba) (HG2.out.keep (HBWR.out.trans (hba.mono HBWR.out.size))) HCN.out HC2.out)
      have HBA := Lib.hid hba
      have HWA := Lib.hid hwa
      clear hz2' hrj hof hba hwa
      have hne1 : V.heap.size < wr.heap.size := by omega
      gi_wp2
      rw [← HWA.out]
      refine ⟨trivial, CallsIn.inRound _ ((callsIn_wide.2 HJC.out).mono ?_)⟩
      rintro e9 w9 ⟨⟨⟨D3, n3, c3, G3, gn3, gc3⟩, ⟨t3, L3, u3, X3⟩⟩, rfl, hz9, how9, hb9⟩
      simp only [encR_eq]
      have HZ9 := Lib.hid (show (⟨t3, L3, u3, X3⟩ : RV) = rr from hz9)
      have hbr : Below wr.heap.size wr w9 := HBA.out.trans (hb9.mono HBA.out.size)
      have HB9 := Lib.hid hbr
      have HOW9 := Lib.hid (how9.less (C := V.heap.size + 1) (Nat.le_trans hgw HBA.out.size))
      have HBX9 := Lib.hid (HBX.out.keep hbr)
      have HBV9 := Lib.hid (HBV.out.trans (hbr.mono (show V.heap.size ≤ wr.heap.size by omega)))
      have hs9 : wr.heap.size ≤ w9.heap.size := hbr.size
      clear hz9 how9 hb9 hbr HJC HWA p0 p1 p2 p3 e0 e1 e2 e3 ef hne1
      obtain ⟨e0, e1, e2, e3, ef⟩ := HBX9.out
      obtain ⟨wg, hwg⟩ : ∃ wg, wg = (((w9.setCell ⟨V.heap.size, 0, none⟩ (.int .i64 t3)).setCell ⟨V.heap.size, 1, none⟩ (.slice D3 n3 c3)).setCell ⟨V.heap.size, 2, none⟩ (.int .i64 u3)).setCell ⟨V.heap.size, 3, none⟩ (.slice G3 gn3 gc3) := ⟨_, rfl⟩
      have HBXg := Lib.hid (show Bx4 wg V.heap.size (.int .i64 t3) (.slice D3 n3 c3) (.int .i64 u3) (.slice G3 gn3 gc3) by rw [hwg]; exact HBX9.out.all _ _ _ _)
      have HBVg := Lib.hid (show Below V.heap.size V wg by rw [hwg]; exact bset (bset (bset (bset HBV9.out (Nat.le_refl _) _) (Nat.le_refl _) _) (Nat.le_refl _) _) (Nat.le_refl _) _)
      have had : (Value.slice D3 n3 c3).ownBlock ≠ some V.heap.size := own_apart HOW9.out.d (by omega)
      have hag : (Value.slice G3 gn3 gc3).ownBlock ≠ some V.heap.size := own_apart HOW9.out.g (by omega)
      have HOWg := Lib.hid (show Owned (V.heap.size + 1) wg (⟨D3, n3, c3, G3, gn3, gc3⟩, ⟨t3, L3, u3, X3⟩) by
        rw [hwg]
        exact ⟨own_set' (own_set' (own_set' (own_set' HOW9.out.d had) had) had) had, own_set' (own_set' (own_set' (own_set' HOW9.out.g hag) hag) hag) hag, HOW9.out.sd, HOW9.out.sg⟩)
      have hsg : wg.heap.size = w9.heap.size := by rw [hwg]; simp [World.setCell]
      have HWG := Lib.hid hwg
      clear had hag hwg
      by_cases hx : x = 0
      case pos =>
        subst hx
        have HRR := Lib.hid (show joinR ⟨t1, L1, u1, X1⟩ ⟨t2, L2, u2, X2⟩ = (⟨t3, L3, u3, X3⟩, 0) by rw [← HRJ.out, HZ9.out])
        have HCN3 := Lib.hid (show 0 ≤ u3 ∧ u3 ≤ 1048576 by
          have h := joinR_count (a := ⟨t1, L1, u1, X1⟩) (b := ⟨t2, L2, u2, X2⟩) (by rw [HRR.out]) HCN.out.1 HC2.out.1
          rw [HRR.out] at h; exact h)
        have HAS3 := Lib.hid (HAS.out.next hkg (z := ⟨t3, L3, u3, X3⟩) (by rw [HGE.out]; exact HRR.out))
        gi_wp2
        rw [← HWG.out]
        go_roundw
        case rel => exact ⟨k0 + 1, (⟨D3, n3, c3, G3, gn3, gc3⟩, ⟨t3, L3, u3, X3⟩), by go_num, by omega, by omega, HBXg, HBVg, Lib.hid (.inr HOWg.out), HCN3, HAS3⟩
        case measure => simp [intOf] <;> omega
      case neg =>
        have z1 : (x != 0) = true := by rw [bne_iff_ne]; exact hx
        have HFL := Lib.hid (show foldL K' = ([], x) from HFS.out.bad HSK.out (r := RV.zero) hx (by
          rw [HKB.out (by rw [HKL.out]; have h8 := HBE.out; have h9 := HL.out; omega), ← HGP.out]
          exact HAS.out.bad hkg hx (z := rr) (by rw [HGE.out]; exact HRJ.out.symm)))
        have HX := Lib.hid hx
        have HQ2 := Lib.hid (show Blk wg w.heap.size 46 #[.slice none 0 0] from (HBVg.out.block _ (by omega)).trans ((HFD.out.near.block _ (by omega) (by omega)).trans HR2.out))
        have HQ3 := Lib.hid (show Blk wg (w.heap.size + 1) 34 #[.int .i64 0] from (HBVg.out.block _ (by omega)).trans ((HFD.out.near.block _ (by omega) (by omega)).trans HR3.out))
        have HLg := Lib.hid (show wg.heap[ob + 2 + 1]? = some (.loop (rec .busy none)) from (HBVg.out.block _ (by omega)).trans HLP.out)
        have HDg := Lib.hid (show wg.heap[ob + 2]? = some (.deferred (some [])) from (HBVg.out.block _ (by omega)).trans HDF.out)
        have HBWg := Lib.hid (show Below w.heap.size w wg from (HLD.out _ _ _ HFD.out).2.2.trans (HBVg.out.mono (by omega)))
        have b2 := HQ2.out.cell 0
        have f2 := HQ2.out.frozen 0
        have b3 := HQ3.out.cell 0
        have f3 := HQ3.out.frozen 0
        simp at b2 b3
        have hWC := HWG.out.symm
        clear hx
        gi_wp2
        obtain ⟨we, hwe⟩ : ∃ we, we = (wg.setCell ⟨w.heap.size, 0, none⟩ (.slice none 0 0)).setCell ⟨w.heap.size + 1, 0, none⟩ (.int .i64 x) := ⟨_, rfl⟩
        have q2 : Blk we w.heap.size 46 #[.slice none 0 0] := by rw [hwe]; have h := (HQ2.out.set_ 0 (.slice none 0 0)).far (p := ⟨w.heap.size + 1, 0, none⟩) (by simp) (.int .i64 x); simpa using h
        have q3 : Blk we (w.heap.size + 1) 34 #[.int .i64 x] := by rw [hwe]; have h := (HQ3.out.far (p := ⟨w.heap.size, 0, none⟩) (by simp) (.slice none 0 0)).set_ 0 (.int .i64 x); simpa using h
        have qL : we.heap[ob + 2 + 1]? = some (.loop (rec .busy none)) := by rw [hwe]; exact (Below.heap_setCell _ _ _ _ (by simp; omega)).trans ((Below.heap_setCell _ _ _ _ (by simp; omega)).trans HLg.out)
        have qD : we.heap[ob + 2]? = some (.deferred (some [])) := by rw [hwe]; exact (Below.heap_setCell _ _ _ _ (by simp; omega)).trans ((Below.heap_setCell _ _ _ _ (by simp; omega)).trans HDg.out)
        have qB : Below w.heap.size w we := by rw [hwe]; exact bset (bset HBWg.out (Nat.le_refl _) _) (by omega) _
        rw [← hwe]
        exact ⟨qL, .inr ⟨rfl, put_loop qL _, (World.putObj_heap_other (by omega)).trans qD, x, HX.out, (World.putObj_heap_other (by omega)).trans q2, (World.putObj_heap_other (by omega)).trans q3, qB.grown (grownBy_putObj' we (ob + 2 + 1) _) qB.size (fun k e => by cases e; omega), HFL.out⟩⟩
  case post =>
    rintro e W' ⟨⟨v0, rfl⟩, hJ⟩
    refine ⟨⟨_, rfl⟩, ?_⟩
    rcases hJ with ⟨hL, hD, v, Y, hfd, hyl, hfs⟩ | ⟨hL, hD, x, hx, h2, h3, hbw, hfl⟩
    · refine .inl ⟨hL, ?_⟩
      obtain ⟨V, hV⟩ : ∃ V, W'.putObj (ob + 2 + 1) (.loop (rec .exhausted none)) = V := ⟨_, rfl⟩
      rw [hV]
      have HFD := Lib.hid (show Fd w W3 ob v Y V by rw [← hV]; exact hfd.loop hL (by omega) _)
      have HDF := Lib.hid (show V.heap[ob + 2]? = some (.deferred (some [])) by rw [← hV]; exact (World.putObj_heap_other (by omega)).trans hD)
      have HFL := Lib.hid (show foldL K' = (Y.map Prod.snd, 0) from by
        have h : FoldSt K' (Y.map Prod.snd) K'.length := by rw [HK.out, List.length_map]; exact HK.out ▸ hfs
        exact h.fin)
      have HYL := Lib.hid hyl
      have HBV := Lib.hid (HLD.out _ _ _ HFD.out).2.2
      have HQ2 := Lib.hid (show Blk V w.heap.size 46 #[.slice none 0 0] from (HFD.out.near.block _ (by omega) (by omega)).trans HR2.out)
      have HQ3 := Lib.hid (show Blk V (w.heap.size + 1) 34 #[.int .i64 0] from (HFD.out.near.block _ (by omega) (by omega)).trans HR3.out)
      have b0 := HFD.out.b.cell 0
      simp at b0
      obtain ⟨hYn, vA, vc, rfl, hvr, hvc, hvm, hvn⟩ := own_sliceR HFD.out.own
      have hgy : ∀ y ∈ Y, Good V y := fun y hy => (HFD.out.ys y hy).elim (fun h => h.keep HBV.out) (fun h => h.good)
      have HCC := Lib.hid (copy_any vA Y.length vc Y V ⟨hvr, hgy⟩ rfl (by have := HYL.out; have := HL.out; omega))
      have hdV : ob + 2 < V.heap.size := lt_of_heap HDF.out
      clear hfd hyl hfs hL hD hV hrec hvr hvc hvm hvn hgy hYn
      gi_wp2
      refine ⟨trivial, (callsIn_wide.2 HCC.out).mono ?_⟩
      clear HCC
      rintro e9 w9 ⟨v9, Y9, rfl, ho9, hm9, hy9, hb9⟩
      obtain ⟨A9, c9, rfl⟩ := own_is ho9
      have HO9 := Lib.hid ho9
      have HM9 := Lib.hid hm9
      have HY9 := Lib.hid hy9
      have HQ2 := Lib.hid (HQ2.out.below hb9 (by omega))
      have HQ3 := Lib.hid (HQ3.out.below hb9 (by omega))
      have HD9 := Lib.hid (show w9.heap[ob + 2]? = some (.deferred (some [])) from (hb9.block _ hdV).trans HDF.out)
      have HB9 := Lib.hid (HBV.out.trans (hb9.mono HBV.out.size))
      have hwV : w.heap.size + 2 ≤ V.heap.size := by omega
      have b2 := HQ2.out.cell 0
      have f2 := HQ2.out.frozen 0
      have b3 := HQ3.out.cell 0
      have f3 := HQ3.out.frozen 0
      simp at b2 b3
      clear ho9 hm9 hy9 hb9 b0
      gi_wp2
      obtain ⟨we, hwe⟩ : ∃ we, we = (w9.setCell ⟨w.heap.size, 0, none⟩ (.slice A9 Y.length c9)).setCell ⟨w.heap.size + 1, 0, none⟩ (.int .i64 0) := ⟨_, rfl⟩
      have q2 : Blk we w.heap.size 46 #[.slice A9 Y.length c9] := by rw [hwe]; have h := (HQ2.out.set_ 0 (.slice A9 Y.length c9)).far (p := ⟨w.heap.size + 1, 0, none⟩) (by simp) (.int .i64 0); simpa using h
      have q3 : Blk we (w.heap.size + 1) 34 #[.int .i64 0] := by rw [hwe]; have h := (HQ3.out.far (p := ⟨w.heap.size, 0, none⟩) (by simp) (.slice A9 Y.length c9)).set_ 0 (.int .i64 0); simpa using h
      have qD : we.heap[ob + 2]? = some (.deferred (some [])) := by rw [hwe]; exact (Below.heap_setCell _ _ _ _ (by simp; omega)).trans ((Below.heap_setCell _ _ _ _ (by simp; omega)).trans HD9.out)
      have qB : Below w.heap.size w we := by rw [hwe]; exact bset (bset HB9.out (Nat.le_refl _) _) (by omega) _
      have q3' := HQ3.out.far (p := ⟨w.heap.size, 0, none⟩) (by simp) (.slice A9 Y.length c9)
      have qO : we.ownsRow V.heap.size 59 4 (.slice A9 Y.length c9) Y.length (cellsR Y9) := by
        rw [hwe]
        have h1 := own_set' (o := 0) (u := .slice A9 Y.length c9) HO9.out (HO9.out.not_blk HQ2.out (by decide))
        exact own_set' h1 (h1.not_blk q3' (by decide))
      have qY : ∀ y ∈ Y9, Owned V.heap.size we y := fun y hy => by
        rw [hwe]
        exact ((HY9.out y hy).setB HQ2.out (by decide) (by decide)).setB q3' (by decide) (by decide)
      have hl9 : Y9.length = Y.length := by have := congrArg List.length HM9.out; simpa using this
      rw [← hwe]
      clear hwe q3' b2 b3 f2 f3
      refine ⟨by simp, .inl ⟨_, _, rfl, run_takeDeferred qD, ?_⟩⟩
      obtain ⟨wf, hwf⟩ : ∃ wf, wf = we.putObj (ob + 2) (.deferred none) := ⟨_, rfl⟩
      have hgf : we.grownBy wf (some (ob + 2)) := by rw [hwf]; exact grownBy_putObj' _ _ _
      have c2 := (q2.grown hgf (fun e => by have := Option.some.inj e; omega)).cell 0
      have c3 := (q3.grown hgf (fun e => by have := Option.some.inj e; omega)).cell 0
      simp at c2 c3
      rw [← hwf]
      refine ⟨.tuple #[.slice A9 Y.length c9, .int .i64 0], by simp [results, Tryz.results24, go_sem, c2, c3], ?_⟩
      refine ⟨_, Y9, 0, K', rfl, HST.out, by rw [HFL.out, HM9.out], ?_, ?_, qB.grown hgf qB.size (fun k e => by cases e; omega)⟩
      · rw [hl9]; exact own_less (qO.kept hgf (.inr (own_not_def qO qD))) HBV.out.size
      · exact fun y hy => ((qY y hy).grown hgf (fun g e => by cases e; exact ⟨own_not_def (qY y hy).d qD, own_not_def (qY y hy).g qD⟩)).less HBV.out.size
    · refine .inr ⟨.ret, hL, ?_⟩
      obtain ⟨V, hV⟩ : ∃ V, W'.putObj (ob + 2 + 1) (.loop (rec .exhausted (some .ret))) = V := ⟨_, rfl⟩
      rw [hV]
      have hgV : W'.grownBy V (some (ob + 2 + 1)) := by rw [← hV]; exact grownBy_putObj' _ _ _
      have q2 : Blk V w.heap.size 46 #[.slice none 0 0] := h2.grown hgV (fun e => by have := Option.some.inj e; omega)
      have q3 : Blk V (w.heap.size + 1) 34 #[.int .i64 x] := h3.grown hgV (fun e => by have := Option.some.inj e; omega)
      have qD : V.heap[ob + 2]? = some (.deferred (some [])) := (hgV.block _ (lt_of_heap hD) (fun e => by have := Option.some.inj e; omega)).trans hD
      have qB : Below w.heap.size w V := hbw.grown hgV hbw.size (fun k e => by cases e; omega)
      have HFL := Lib.hid hfl
      clear hV hgV h2 h3 hD hbw hfl hL hx hrec
      gi_wp2
      refine ⟨by simp, .inl ⟨_, _, rfl, run_takeDeferred qD, ?_⟩⟩
      obtain ⟨wf, hwf⟩ : ∃ wf, wf = V.putObj (ob + 2) (.deferred none) := ⟨_, rfl⟩
      have hgf : V.grownBy wf (some (ob + 2)) := by rw [hwf]; exact grownBy_putObj' _ _ _
      have c2 := (q2.grown hgf (fun e => by have := Option.some.inj e; omega)).cell 0
      have c3 := (q3.grown hgf (fun e => by have := Option.some.inj e; omega)).cell 0
      simp at c2 c3
      rw [← hwf]
      refine ⟨.tuple #[.slice none 0 0, .int .i64 x], by simp [results, Tryz.results24, go_sem, c2, c3], ?_⟩
      exact ⟨_, [], x, K', rfl, HST.out, HFL.out, World.ownsRow_nil _ _ _ _, (fun y hy => by cases hy), qB.grown hgf qB.size (fun k e => by cases e; omega)⟩
end Go.Proofs.YtmmeekmiildliaaGreatDoor
