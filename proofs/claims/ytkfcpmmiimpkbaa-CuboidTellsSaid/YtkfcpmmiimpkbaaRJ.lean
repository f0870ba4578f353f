/- The stretches of one key, one behind the other. -/
import Derived.Test.YtkfcpmmiimpkbaaRI
namespace Go.Proofs.Ytkfcpmmiimpkbaa
open Go.RowKit Go.Shelf
set_option linter.unusedSimpArgs false
set_option linter.unusedVariables false
attribute [local go_sem] Oper.semAt_some
theorem slice_rows (b off n c lo hi : Nat) (h1 : lo < hi) (h2 : hi ≤ n) (h3 : n ≤ c) (W : World) : Sem.run Try.prog (Instr.slice 25 (.slice (some ⟨b, off, none⟩) n c) (some (.int .i64 (lo : Int))) (some (.int .i64 (hi : Int))) none) W = .ok (.slice (some ⟨b, off + lo * 4, none⟩) (hi - lo) (c - lo)) W := by
  have hs : ∀ W, Sem.run Try.prog (Go.sizeOf (Try.prog.elem 25)) W = .ok 4 W := fun _ => by kernel_rfl
  have e : Try.prog.elem 25 = 45 := by kernel_rfl
  rw [run_slice_lh W 25 (some ⟨b, off, none⟩) n c (by rw [e]; exact Try.underlying25) .i64 .i64 lo hi (by omega) (by omega) (by omega), hs]
  have e2 : (⟨b, off, none⟩ : Addr).add (lo * 4) = ⟨b, off + lo * 4, none⟩ := by
    unfold Addr.add; split
    · rename_i h; rw [h]; rfl
    · rfl
  simp only [Result.andThen, sliced, Int.toNat_natCast, Option.map_some, e2]
  rw [if_neg (by omega)]
/-- A stretch of one key, that no row behind it belongs to. -/
def Stretch (Z : List RZ) (b e : Nat) : Prop := b < e ∧ e ≤ Z.length ∧ (∀ i (h : i + 1 < Z.length), b ≤ i → i + 1 < e → cmpV Z[i].2 Z[i + 1].2 = 0) ∧ (∀ (h : e < Z.length), cmpV (Z[e - 1]'(by omega)).2 Z[e].2 ≠ 0)
set_option maxRecDepth 100000 in
set_option maxHeartbeats 8000000 in
theorem keys_in (n l Bs len cap blk : Nat) (Z : List RZ) (hlen : len = Z.length) (hl9 : len ≤ 1000000) (hcap : len ≤ cap) (J : Nat → World → Prop) (Jx : World → Prop)
    (hJB : ∀ k W, J k W → W.cell? ⟨Bs, 0, none⟩ = some (.slice (some ⟨blk, 0, none⟩) len cap) ∧ RowsC W (some ⟨blk, 0, none⟩) Z) (hJA : ∀ k W W', J k W → W.grownBy W' none → J k W')
    (hY : ∀ b e W, Stretch Z b e → J b W → YieldAt Fence.wide (n - 1) Try.prog l #[.slice (some ⟨blk, b * 4, none⟩) (e - b) (cap - b)] W fun e' W' => (e' = .returned (.bool true) ∧ J e W') ∨ (e' = .returned (.bool false) ∧ Jx W'))
    (W : World) (h0 : J 0 W) :
    CallsIn Fence.wide n Try.prog 69 #[.func (.yield l) #[] #[], .pointer (some ⟨Bs, 0, none⟩)] W fun e W' => (∃ v, e = .returned v) ∧ (J Z.length W' ∨ Jx W') := by
  refine callsIn_of_wp Try.func69 rfl trivial ?_ rfl
  simp only [Try.ntmps69, List.size_toArray, List.length_cons, List.length_nil, Nat.reduceAdd, Nat.reduceSub, Array.replicate_succ, Array.replicate_zero, List.push_toArray, List.append_toArray, List.nil_append, List.cons_append]
  have HY := Lib.hid hY
  have HJ0 := Lib.hid h0
  have hb0 := (hJB 0 W h0).1
  have HJB := Lib.hid hJB
  have HJA := Lib.hid hJA
  have HZ := Lib.hid hlen
  have HCAP := Lib.hid hcap
  clear hY h0 hJB hJA hlen hcap
  gi_wp2
  clear hb0
  gi_loopw [3, 4, 7] (fun b q4 i wr => ∃ b0 k : Nat, b = .int .i64 (b0 : Int) ∧ i = .int .i64 (k : Int) ∧ b0 ≤ k ∧ k ≤ len ∧ (k = len → b0 = len) ∧ Hid (∀ i (h : i + 1 < Z.length), b0 ≤ i → i < k → cmpV Z[i].2 Z[i + 1].2 = 0) ∧ Hid (J b0 wr)) (fun _ _ i _ => len - (intOf i).toNat)
  case atStart => exact ⟨0, 0, rfl, rfl, Nat.le_refl _, Nat.zero_le _, fun h => h, Lib.hid (fun i h h1 h2 => absurd h2 (by omega)), HJ0⟩
  case round =>
    obtain ⟨b0, k, rfl, rfl, hbk, hk, hkb, HS, HJS⟩ := hrel
    by_cases hlt : k < len
    case neg =>
      obtain rfl : k = len := by omega
      obtain rfl : b0 = k := hkb rfl
      have HF := Lib.hid (show J Z.length wr by have h := HJS.out; rwa [HZ.out] at h)
      clear hkb hlt
      gi_wp2
      go_end0
      exact ⟨⟨_, rfl⟩, .inl HF.out⟩
    case pos =>
    have hki : (k : Int) < (len : Int) := by omega
    have hk0 : (0 : Int) ≤ (k : Int) := by omega
    obtain ⟨kk, hkk⟩ : ∃ kk, kk = k + 1 := ⟨_, rfl⟩
    have HKK := Lib.hid hkk
    have hkw : IntKind.i64.wrap ((k : Int) + 1) = (kk : Int) := by rw [IntWalk.i64_in _ (by omega)]; omega
    have hk1 : (0 : Int) ≤ (kk : Int) := by omega
    have hb00 : (0 : Int) ≤ (b0 : Int) := by omega
    have sl : ∀ W, Sem.run Try.prog (Instr.slice 25 (.slice (some ⟨blk, 0, none⟩) len cap) (some (.int .i64 (b0 : Int))) (some (.int .i64 (kk : Int))) none) W = .ok (.slice (some ⟨blk, b0 * 4, none⟩) (kk - b0) (cap - b0)) W := fun W => by have h := slice_rows blk 0 len cap b0 kk (by omega) (by omega) HCAP.out W; rwa [Nat.zero_add] at h
    have x0 := (HJB.out _ _ HJS.out).1
    have hrc := (HJB.out _ _ HJS.out).2
    -- what is done where a stretch ends
    by_cases hlast : kk < len
    case neg =>
      have hki3 : ¬ ((kk : Int) < (len : Int)) := by omega
      have HST := Lib.hid (show Stretch Z b0 kk from ⟨by omega, by rw [← HZ.out]; omega, fun i h h1 h2 => HS.out i h h1 (by omega), fun h => absurd h (by rw [← HZ.out]; omega)⟩)
      have HKL := Lib.hid (show kk = Z.length by rw [← HZ.out]; omega)
      clear hlt hlast hkk hrc hkb
      gi_wp2
      refine wpIn_wide.2 ?_
      refine wp_region_held_drew (S := fun w' => Below wr.heap.size wr w') (by kernel_rfl) (below_drewN (Below.refl _ _) 1) ?_
      intro hHeld
      refine take_want (i := 0) (v := ?v0k2) rfl (by kernel_rfl) (by kernel_rfl) (by kernel_rfl) (fun _ _ _ h => h) (by rfl) ?y0k2 (by assumption) ?r0k2
      case y0k2 => (intro w hSw; go_simp; all_goals with_reducible rfl)
      (try simp only [Act.put, List.setIfInBounds_toArray, List.set_cons_zero, List.set_cons_succ])
      refine take_want (i := 1) (v := (.int .i64 (kk : Int))) rfl (by kernel_rfl) (by kernel_rfl) (by kernel_rfl) (fun _ _ _ h => h) (by rfl) ?y1k2 (by assumption) ?r1k2
      case y1k2 => (intro w hSw; go_simp; try rw [hkw])
      (try simp only [Act.put, List.setIfInBounds_toArray, List.set_cons_zero, List.set_cons_succ])
      refine take_want (i := 2) (v := ?v2k2) rfl (by kernel_rfl) (by kernel_rfl) (by kernel_rfl) (fun _ _ _ h => h) (by rfl) ?y2k2 (by assumption) ?r2k2
      case y2k2 => (intro w hSw; have m0 := cell_on hSw x0; go_simp; all_goals with_reducible rfl)
      (try simp only [Act.put, List.setIfInBounds_toArray, List.set_cons_zero, List.set_cons_succ])
      refine take_want (i := 3) (v := ?v3k2) rfl (by kernel_rfl) (by kernel_rfl) (by kernel_rfl) (fun _ _ _ h => h) (by rfl) ?y3k2 (by assumption) ?r3k2
      case y3k2 => (intro w hSw; go_simp; all_goals with_reducible rfl)
      (try simp only [Act.put, List.setIfInBounds_toArray, List.set_cons_zero, List.set_cons_succ])
      refine take_want (i := 4) (v := (.bool false)) rfl (by kernel_rfl) (by kernel_rfl) (by kernel_rfl) (fun _ _ _ h => h) (by rfl) ?y4k2 (by assumption) ?r4k2
      case y4k2 => (intro w hSw; go_simp; (try simp [hki3]); (try omega))
      (try simp only [Act.put, List.setIfInBounds_toArray, List.set_cons_zero, List.set_cons_succ])
      refine take_want (i := 5) (v := ?v5k2) rfl (by kernel_rfl) (by kernel_rfl) (by kernel_rfl) (fun _ _ _ h => h) (by rfl) ?y5k2 (by assumption) ?r5k2
      case y5k2 => (intro w hSw; go_simp; all_goals with_reducible rfl)
      (try simp only [Act.put, List.setIfInBounds_toArray, List.set_cons_zero, List.set_cons_succ])
      refine take_skip (i := 6) rfl (by kernel_rfl) (by kernel_rfl) (by kernel_rfl) (fun _ _ _ h => h) (by rfl) (by assumption) ?_
      (try simp only [Act.put, List.setIfInBounds_toArray, List.set_cons_zero, List.set_cons_succ])
      refine take_skip (i := 7) rfl (by kernel_rfl) (by kernel_rfl) (by kernel_rfl) (fun _ _ _ h => h) (by rfl) (by assumption) ?_
      (try simp only [Act.put, List.setIfInBounds_toArray, List.set_cons_zero, List.set_cons_succ])
      refine take_skip (i := 8) rfl (by kernel_rfl) (by kernel_rfl) (by kernel_rfl) (fun _ _ _ h => h) (by rfl) (by assumption) ?_
      (try simp only [Act.put, List.setIfInBounds_toArray, List.set_cons_zero, List.set_cons_succ])
      refine take_skip (i := 9) rfl (by kernel_rfl) (by kernel_rfl) (by kernel_rfl) (fun _ _ _ h => h) (by rfl) (by assumption) ?_
      (try simp only [Act.put, List.setIfInBounds_toArray, List.set_cons_zero, List.set_cons_succ])
      refine take_skip (i := 10) rfl (by kernel_rfl) (by kernel_rfl) (by kernel_rfl) (fun _ _ _ h => h) (by rfl) (by assumption) ?_
      (try simp only [Act.put, List.setIfInBounds_toArray, List.set_cons_zero, List.set_cons_succ])
      refine take_skip (i := 11) rfl (by kernel_rfl) (by kernel_rfl) (by kernel_rfl) (fun _ _ _ h => h) (by rfl) (by assumption) ?_
      (try simp only [Act.put, List.setIfInBounds_toArray, List.set_cons_zero, List.set_cons_succ])
      refine take_skip (i := 12) rfl (by kernel_rfl) (by kernel_rfl) (by kernel_rfl) (fun _ _ _ h => h) (by rfl) (by assumption) ?_
      (try simp only [Act.put, List.setIfInBounds_toArray, List.set_cons_zero, List.set_cons_succ])
      refine take_skip (i := 13) rfl (by kernel_rfl) (by kernel_rfl) (by kernel_rfl) (fun _ _ _ h => h) (by rfl) (by assumption) ?_
      (try simp only [Act.put, List.setIfInBounds_toArray, List.set_cons_zero, List.set_cons_succ])
      refine take_skip (i := 14) rfl (by kernel_rfl) (by kernel_rfl) (by kernel_rfl) (fun _ _ _ h => h) (by rfl) (by assumption) ?_
      (try simp only [Act.put, List.setIfInBounds_toArray, List.set_cons_zero, List.set_cons_succ])
      refine take_skip (i := 15) rfl (by kernel_rfl) (by kernel_rfl) (by kernel_rfl) (fun _ _ _ h => h) (by rfl) (by assumption) ?_
      (try simp only [Act.put, List.setIfInBounds_toArray, List.set_cons_zero, List.set_cons_succ])
      refine take_skip (i := 16) rfl (by kernel_rfl) (by kernel_rfl) (by kernel_rfl) (fun _ _ _ h => h) (by rfl) (by assumption) ?_
      (try simp only [Act.put, List.setIfInBounds_toArray, List.set_cons_zero, List.set_cons_succ])
      refine take_want (i := 17) (v := ?v17k2) rfl (by kernel_rfl) (by kernel_rfl) (by kernel_rfl) (fun _ _ _ h => h) (by rfl) ?y17k2 (by assumption) ?r17k2
      case y17k2 => (intro w hSw; go_simp; all_goals with_reducible rfl)
      (try simp only [Act.put, List.setIfInBounds_toArray, List.set_cons_zero, List.set_cons_succ])
      refine wpAnyH_done (by kernel_rfl) ?_ _
      have hj := HJA.out _ _ _ HJS.out (grown_none hHeld)
      revert hj hHeld
      generalize wr.drew = wk
      intro hHeld hj
      have x0 := (HJB.out _ _ hj).1
      obtain ⟨fn, tmps, assign, body, hy1, hR1⟩ := HY.out b0 kk wk HST.out hj
      have HR1 := Lib.hid hR1
      clear hR1 hj hHeld
      gi_wp2
      try (refine ⟨(fun h => by simp [Fence.wide] at h), ?_⟩)
      refine HR1.out.mono ?_
      rintro e W1 (⟨rfl, hJ1⟩ | ⟨rfl, hJ1⟩)
      · have HJ1 := Lib.hid hJ1
        clear hJ1 hy1
        gi_wp2
        go_roundw
        case rel => exact ⟨kk, kk, by first | rfl | (rw [HKK.out]; go_num), by first | rfl | (rw [HKK.out]; go_num), Nat.le_refl _, by have := HKK.out; omega, fun h => h, Lib.hid (fun i h h1 h2 => absurd h2 (by omega)), HJ1⟩
        case measure => have := HKK.out; simp [intOf] <;> omega
      · have HJ1 := Lib.hid hJ1
        clear hJ1 hy1
        gi_wp2
        try (refine ⟨fun _ h => (by cases h), ?_⟩)
        gi_wp2
        refine bodyPost_ret (results_none rfl _ _ _) rfl ?_
        exact ⟨⟨_, rfl⟩, .inr HJ1.out⟩
    case pos =>
    have hki2 : (kk : Int) < (len : Int) := by omega
    have hkL : k < Z.length := by have := HZ.out; omega
    have hkM : kk < Z.length := by have := HZ.out; omega
    obtain ⟨bb, oo, he, p0, p1, p2, p3⟩ := hrc.at hkL
    obtain ⟨bb2, oo2, he2, q0, q1, q2, q3⟩ := hrc.at hkM
    cases he; cases he2
    have g1 := hrc.good _ (List.getElem_mem hkL)
    have g2 := hrc.good _ (List.getElem_mem hkM)
    have HSS := Lib.hid (show ∀ i (h : i + 1 < Z.length), b0 ≤ i → i + 1 < kk → cmpV Z[i].2 Z[i + 1].2 = 0 from fun i h h1 h2 => HS.out i h h1 (by omega))
    have HCV := Lib.hid (show ∀ (h : k + 1 < Z.length), cmpV Z[k].2 Z[k + 1].2 = cmpV Z[k].2 Z[kk].2 from fun h => by simp only [hkk])
    have HKE := Lib.hid (show kk - 1 = k by omega)
    obtain ⟨⟨⟨D1, n1, c1, G1, gn1, gc1⟩, ⟨t1, L1, u1, X1⟩⟩, hz1⟩ : ∃ z, z = Z[k] := ⟨_, rfl⟩
    obtain ⟨⟨⟨D2, n2, c2, G2, gn2, gc2⟩, ⟨t2, L2, u2, X2⟩⟩, hz2⟩ : ∃ z, z = Z[kk] := ⟨_, rfl⟩
    rw [← hz1] at p0 p1 p2 p3 g1
    rw [← hz2] at q0 q1 q2 q3 g2
    simp only [Nat.zero_add] at p0 p1 p2 p3 q0 q1 q2 q3
    obtain ⟨pv, hp⟩ : ∃ p, p = cmpK t1 t2 L1 L2 := ⟨_, rfl⟩
    have HP := Lib.hid hp
    have HPV := Lib.hid (show pv = cmpV Z[k].2 Z[kk].2 by rw [← hz1, ← hz2, hp]; rfl)
    have X4 := Lib.hid g1.rd
    have Y4 := Lib.hid g2.rd
    have X5 := Lib.hid g1.nd
    have Y5 := Lib.hid g2.nd
    have x6 : n1 ≤ 9223372036854775807 := by have := g1.sd; simp only at this; omega
    have y6 : n2 ≤ 9223372036854775807 := by have := g2.sd; simp only at this; omega
    simp only at X4 Y4 X5 Y5
    clear hz1 hz2 hp g1 g2 hrc hkb hlt hlast hkk
    gi_wp2
    refine wpIn_wide.2 ?_
    refine wp_region_held_drew (S := fun w' => Below wr.heap.size wr w') (by kernel_rfl) (below_drewN (Below.refl _ _) 1) ?_
    intro hHeld
    refine take_want (i := 0) (v := ?v0k1) rfl (by kernel_rfl) (by kernel_rfl) (by kernel_rfl) (fun _ _ _ h => h) (by rfl) ?y0k1 (by assumption) ?r0k1
    case y0k1 => (intro w hSw; go_simp; all_goals with_reducible rfl)
    (try simp only [Act.put, List.setIfInBounds_toArray, List.set_cons_zero, List.set_cons_succ])
    refine take_want (i := 1) (v := (.int .i64 (kk : Int))) rfl (by kernel_rfl) (by kernel_rfl) (by kernel_rfl) (fun _ _ _ h => h) (by rfl) ?y1k1 (by assumption) ?r1k1
    case y1k1 => (intro w hSw; go_simp; try rw [hkw])
    (try simp only [Act.put, List.setIfInBounds_toArray, List.set_cons_zero, List.set_cons_succ])
    refine take_want (i := 2) (v := ?v2k1) rfl (by kernel_rfl) (by kernel_rfl) (by kernel_rfl) (fun _ _ _ h => h) (by rfl) ?y2k1 (by assumption) ?r2k1
    case y2k1 => (intro w hSw; have m0 := cell_on hSw x0; go_simp; all_goals with_reducible rfl)
    (try simp only [Act.put, List.setIfInBounds_toArray, List.set_cons_zero, List.set_cons_succ])
    refine take_want (i := 3) (v := ?v3k1) rfl (by kernel_rfl) (by kernel_rfl) (by kernel_rfl) (fun _ _ _ h => h) (by rfl) ?y3k1 (by assumption) ?r3k1
    case y3k1 => (intro w hSw; go_simp; all_goals with_reducible rfl)
    (try simp only [Act.put, List.setIfInBounds_toArray, List.set_cons_zero, List.set_cons_succ])
    refine take_want (i := 4) (v := (.bool true)) rfl (by kernel_rfl) (by kernel_rfl) (by kernel_rfl) (fun _ _ _ h => h) (by rfl) ?y4k1 (by assumption) ?r4k1
    case y4k1 => (intro w hSw; go_simp; (try simp [hki2]); (try omega))
    (try simp only [Act.put, List.setIfInBounds_toArray, List.set_cons_zero, List.set_cons_succ])
    refine take_want (i := 5) (v := ?v5k1) rfl (by kernel_rfl) (by kernel_rfl) (by kernel_rfl) (fun _ _ _ h => h) (by rfl) ?y5k1 (by assumption) ?r5k1
    case y5k1 => (intro w hSw; go_simp; all_goals with_reducible rfl)
    (try simp only [Act.put, List.setIfInBounds_toArray, List.set_cons_zero, List.set_cons_succ])
    refine take_want (i := 6) (v := ?v6k1) rfl (by kernel_rfl) (by kernel_rfl) (by kernel_rfl) (fun _ _ _ h => h) (by rfl) ?y6k1 (by assumption) ?r6k1
    case y6k1 => (intro w hSw; have m0 := cell_on hSw x0; go_simp; all_goals with_reducible rfl)
    (try simp only [Act.put, List.setIfInBounds_toArray, List.set_cons_zero, List.set_cons_succ])
    refine take_want (i := 7) (v := ?v7k1) rfl (by kernel_rfl) (by kernel_rfl) (by kernel_rfl) (fun _ _ _ h => h) (by rfl) ?y7k1 (by assumption) ?r7k1
    case y7k1 => (intro w hSw; go_simp; all_goals with_reducible rfl)
    (try simp only [Act.put, List.setIfInBounds_toArray, List.set_cons_zero, List.set_cons_succ])
    refine take_want (i := 8) (v := ?v8k1) rfl (by kernel_rfl) (by kernel_rfl) (by kernel_rfl) (fun _ _ _ h => h) (by rfl) ?y8k1 (by assumption) ?r8k1
    case y8k1 => (intro w hSw; go_simp; all_goals with_reducible rfl)
    (try simp only [Act.put, List.setIfInBounds_toArray, List.set_cons_zero, List.set_cons_succ])
    refine take_want (i := 9) (v := ?v9k1) rfl (by kernel_rfl) (by kernel_rfl) (by kernel_rfl) (fun _ _ _ h => h) (by rfl) ?y9k1 (by assumption) ?r9k1
    case y9k1 => (intro w hSw; have m0 := cell_on hSw x0; have m1 := cell_on hSw p0; have m2 := cell_on hSw p1; have m3 := cell_on hSw p2; have m4 := cell_on hSw p3; have n1 := cell_on hSw q0; have n2 := cell_on hSw q1; have n3 := cell_on hSw q2; have n4 := cell_on hSw q3; go_simp; all_goals with_reducible rfl)
    (try simp only [Act.put, List.setIfInBounds_toArray, List.set_cons_zero, List.set_cons_succ])
    refine take_want (i := 10) (v := ?v10k1) rfl (by kernel_rfl) (by kernel_rfl) (by kernel_rfl) (fun _ _ _ h => h) (by rfl) ?y10k1 (by assumption) ?r10k1
    case y10k1 => (intro w hSw; have m0 := cell_on hSw x0; go_simp; all_goals with_reducible rfl)
    (try simp only [Act.put, List.setIfInBounds_toArray, List.set_cons_zero, List.set_cons_succ])
    refine take_want (i := 11) (v := ?v11k1) rfl (by kernel_rfl) (by kernel_rfl) (by kernel_rfl) (fun _ _ _ h => h) (by rfl) ?y11k1 (by assumption) ?r11k1
    case y11k1 => (intro w hSw; go_simp; all_goals with_reducible rfl)
    (try simp only [Act.put, List.setIfInBounds_toArray, List.set_cons_zero, List.set_cons_succ])
    refine take_want (i := 12) (v := (.int .i64 (kk : Int))) rfl (by kernel_rfl) (by kernel_rfl) (by kernel_rfl) (fun _ _ _ h => h) (by rfl) ?y12k1 (by assumption) ?r12k1
    case y12k1 => (intro w hSw; go_simp; try rw [hkw])
    (try simp only [Act.put, List.setIfInBounds_toArray, List.set_cons_zero, List.set_cons_succ])
    refine take_want (i := 13) (v := ?v13k1) rfl (by kernel_rfl) (by kernel_rfl) (by kernel_rfl) (fun _ _ _ h => h) (by rfl) ?y13k1 (by assumption) ?r13k1
    case y13k1 => (intro w hSw; go_simp; all_goals with_reducible rfl)
    (try simp only [Act.put, List.setIfInBounds_toArray, List.set_cons_zero, List.set_cons_succ])
    refine take_want (i := 14) (v := ?v14k1) rfl (by kernel_rfl) (by kernel_rfl) (by kernel_rfl) (fun _ _ _ h => h) (by rfl) ?y14k1 (by assumption) ?r14k1
    case y14k1 => (intro w hSw; have m0 := cell_on hSw x0; have m1 := cell_on hSw p0; have m2 := cell_on hSw p1; have m3 := cell_on hSw p2; have m4 := cell_on hSw p3; have n1 := cell_on hSw q0; have n2 := cell_on hSw q1; have n3 := cell_on hSw q2; have n4 := cell_on hSw q3; go_simp; all_goals with_reducible rfl)
    (try simp only [Act.put, List.setIfInBounds_toArray, List.set_cons_zero, List.set_cons_succ])
    refine wpAnyH_ready (rs := [15]) (by kernel_rfl) (by simp) ?_
    refine AllReadyH.cons rfl (fun K hK => ?_) AllReadyH.nil
    go_simp
    (go_at_call 50; refine (compare_any t1 t2 u1 u2 D1 D2 G1 G2 n1 c1 n2 c2 gn1 gc1 gn2 gc2 L1 L2 _ (X4.out.keep (Nat.le_refl _) hHeld) (Y4.out.keep (Nat.le_refl _) hHeld) X5.out Y5.out x6 y6).mono ?_; rw [← HP.out]; rintro e w7 ⟨rfl, hb⟩)
    refine hK.out _ _ (bthen hHeld hb) (fun hHeld => ?_)
    clear hK K
    (try simp only [Act.put, List.setIfInBounds_toArray, List.set_cons_zero, List.set_cons_succ])
    refine take_want (i := 16) (v := ?v16k1) rfl (by kernel_rfl) (by kernel_rfl) (by kernel_rfl) (fun _ _ _ h => h) (by rfl) ?y16k1 (by assumption) ?r16k1
    case y16k1 => (intro w hSw; go_simp; all_goals with_reducible rfl)
    (try simp only [Act.put, List.setIfInBounds_toArray, List.set_cons_zero, List.set_cons_succ])
    refine take_want (i := 17) (v := ?v17k1) rfl (by kernel_rfl) (by kernel_rfl) (by kernel_rfl) (fun _ _ _ h => h) (by rfl) ?y17k1 (by assumption) ?r17k1
    case y17k1 => (intro w hSw; go_simp; all_goals with_reducible rfl)
    (try simp only [Act.put, List.setIfInBounds_toArray, List.set_cons_zero, List.set_cons_succ])
    refine wpAnyH_done (by kernel_rfl) ?_ _
    by_cases hpz : pv = 0
    · have HPZ := Lib.hid hpz
      have z1 : (pv == 0) = true := by rw [beq_iff_eq]; exact hpz
      have HJ1 := Lib.hid (HJA.out _ _ _ HJS.out (grown_none hHeld))
      have HS1 := Lib.hid (show ∀ i (h : i + 1 < Z.length), b0 ≤ i → i < kk → cmpV Z[i].2 Z[i + 1].2 = 0 from fun i h h1 h2 => by
        by_cases e : i = k
        · subst e; rw [HCV.out h, ← HPV.out, HPZ.out]
        · exact HS.out i h h1 (by have := HKK.out; omega))
      clear hHeld hpz
      gi_wp2
      go_roundw
      case rel => exact ⟨b0, kk, rfl, by first | (rw [HKK.out]; done) | (rw [HKK.out]; go_num), by have := HKK.out; omega, by omega, fun h => absurd h (by omega), HS1, HJ1⟩
      case measure => have := HKK.out; simp [intOf] <;> omega
    · have z1 : (pv == 0) = false := by rw [beq_eq_false_iff_ne]; exact hpz
      have HST := Lib.hid (show Stretch Z b0 kk from ⟨by have := HKK.out; omega, by omega, HSS.out, fun h => by simp only [HKE.out]; rw [← HPV.out]; exact hpz⟩)
      clear hpz
      have hj := HJA.out _ _ _ HJS.out (grown_none hHeld)
      revert hj hHeld
      generalize w7 = wk
      intro hHeld hj
      have x0 := (HJB.out _ _ hj).1
      obtain ⟨fn, tmps, assign, body, hy1, hR1⟩ := HY.out b0 kk wk HST.out hj
      have HR1 := Lib.hid hR1
      clear hR1 hj hHeld
      gi_wp2
      try (refine ⟨(fun h => by simp [Fence.wide] at h), ?_⟩)
      refine HR1.out.mono ?_
      rintro e W1 (⟨rfl, hJ1⟩ | ⟨rfl, hJ1⟩)
      · have HJ1 := Lib.hid hJ1
        clear hJ1 hy1
        gi_wp2
        go_roundw
        case rel => exact ⟨kk, kk, by first | rfl | (rw [HKK.out]; go_num), by first | rfl | (rw [HKK.out]; go_num), Nat.le_refl _, by have := HKK.out; omega, fun h => h, Lib.hid (fun i h h1 h2 => absurd h2 (by omega)), HJ1⟩
        case measure => have := HKK.out; simp [intOf] <;> omega
      · have HJ1 := Lib.hid hJ1
        clear hJ1 hy1
        gi_wp2
        try (refine ⟨fun _ h => (by cases h), ?_⟩)
        gi_wp2
        refine bodyPost_ret (results_none rfl _ _ _) rfl ?_
        exact ⟨⟨_, rfl⟩, .inr HJ1.out⟩
end Go.Proofs.Ytkfcpmmiimpkbaa
