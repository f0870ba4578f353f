/- The document's types (24). -/
import Derived.Test.YtgaallkdfcckpaaFR
namespace Go.Proofs.Ytgaallkdfcckpaa
open Go.RowKit Go.Maps Go.Lib Go.Shelf
set_option linter.unusedSimpArgs false
set_option linter.unusedVariables false
set_option maxRecDepth 100000 in
set_option maxHeartbeats 32000000 in
theorem types_any (q : QZ) (w : World) (hq : QIn w q) :
    Calls Try.prog 50 #[.agg #[.slice q.tA q.tn q.tc, .int .i64 q.frm, .int .i64 q.upto, .int .i64 q.every, .slice q.bA q.bn q.bc, .int .i64 q.f.op, .string q.f.dim, .string q.f.val, .slice q.f.A q.f.n q.f.c, .slice q.hA q.hn q.hc, .int .i64 q.order, .int .i64 q.limit]] w fun e w' => e = .returned (.bool (boundedS q.f.vals q)) ∧ Below w.heap.size w w' := by
  obtain ⟨w1, hw1⟩ : ∃ w1, w1 = w.alloc (.cells #[.slice q.tA q.tn q.tc, .int .i64 q.frm, .int .i64 q.upto, .int .i64 q.every, .slice q.bA q.bn q.bc, .int .i64 q.f.op, .string q.f.dim, .string q.f.val, .slice q.f.A q.f.n q.f.c, .slice q.hA q.hn q.hc, .int .i64 q.order, .int .i64 q.limit] 42) := ⟨_, rfl⟩
  have hb1 : Below w.heap.size w w1 := by rw [hw1]; exact bpush (Below.refl _ _) _
  have hQB : Blk w1 w.heap.size 42 #[.slice q.tA q.tn q.tc, .int .i64 q.frm, .int .i64 q.upto, .int .i64 q.every, .slice q.bA q.bn q.bc, .int .i64 q.f.op, .string q.f.dim, .string q.f.val, .slice q.f.A q.f.n q.f.c, .slice q.hA q.hn q.hc, .int .i64 q.order, .int .i64 q.limit] := by
    rw [hw1]; exact Blk.new w 42 #[.slice q.tA q.tn q.tc, .int .i64 q.frm, .int .i64 q.upto, .int .i64 q.every, .slice q.bA q.bn q.bc, .int .i64 q.f.op, .string q.f.dim, .string q.f.val, .slice q.f.A q.f.n q.f.c, .slice q.hA q.hn q.hc, .int .i64 q.order, .int .i64 q.limit]
  obtain ⟨Q, hQe⟩ : ∃ Q, Q = w.heap.size := ⟨_, rfl⟩
  rw [← hQe] at hQB
  have HB1 := Lib.hid hb1
  have HQB := Lib.hid hQB
  have HQ := Lib.hid hq
  have HW1 := Lib.hid hw1
  have HQE := Lib.hid hQe
  have HC4 := Lib.hid (fun W (hW : Below w1.heap.size w1 W) => show W.cell? ⟨Q, 4, none⟩ = some (.slice q.bA q.bn q.bc) from by rw [(hQB.below hW).cell 4]; rfl)
  have hbn := hq.by_.max
  have hbc := hq.by_.cap
  have htn := hq.tmax
  obtain ⟨oo, hoo⟩ : ∃ o, o = boundedS q.f.vals q := ⟨_, rfl⟩
  rw [← hoo]
  have HOO := Lib.hid hoo
  obtain ⟨bv, hbv⟩ : ∃ b, b = q.f.vals := ⟨_, rfl⟩
  rw [← hbv] at HOO
  have HV := Lib.hid (fun W (hW : Below w1.heap.size w1 W) => values_any q.f W (FIn.keep q.f hq.f (Nat.le_refl _) (bthen hb1 hW)))
  rw [← hbv] at HV
  clear hw1 hb1 hQB hq hQe hoo hbv
  go_enter Try.func50, Try.ntmps50
  go_upto_region 2 with fail
  rw [← HW1.out, ← HQE.out]
  go_loopw [3, 4] (fun v3 v4 wr => ∃ k : Nat, k ≤ q.bn ∧ v3 = .int .i64 k ∧ Hid (∀ (i j : Nat) (hij : i < j) (h : j < q.BY.length), j < k → q.BY[i]'(Nat.lt_trans hij h) ≠ q.BY[j]) ∧ Hid (Below w1.heap.size w1 wr)) (fun i _ _ => q.bn - (intOf i).toNat)
  case atStart => exact ⟨0, by omega, rfl, Lib.hid (fun i j _ _ h => by omega), Lib.hid (Below.refl _ _)⟩
  case round =>
    obtain ⟨k, hk, rfl, HS, HB⟩ := hrel
    have c4 := HC4.out wr HB.out
    by_cases hlt : k < q.bn
    · have hkz0 : (0 : Int) ≤ (k : Int) := by omega
      have hkz1 : (k : Int) < (q.bn : Int) := by omega
      have hkz : k < q.BY.length := by have := HQ.out.by_.len; omega
      have HKZ := Lib.hid hkz
      obtain ⟨wo, rfl⟩ : ∃ wo : World, wo = wr := ⟨_, rfl⟩
      clear hlt
      go_upto_region 5 with fail
      clear c4
      go_loopw [4] (fun v4 wr => ∃ i : Nat, i ≤ k ∧ v4 = .int .i64 i ∧ Hid (∀ (j : Nat) (hj : j < k), j < i → q.BY[j]'(Nat.lt_trans hj HKZ.out) ≠ q.BY[k]'HKZ.out) ∧ Hid (Below w1.heap.size w1 wr)) (fun i _ => k - (intOf i).toNat)
      case atStart => exact ⟨0, by omega, rfl, Lib.hid (fun j _ h => by omega), HB⟩
      case round =>
        clear HB
        obtain ⟨i, hi, rfl, HS1, HB⟩ := hrel
        have c4 := HC4.out wr HB.out
        by_cases hit : i < k
        · have hiz0 : (0 : Int) ≤ (i : Int) := by omega
          have hiz1 : (i : Int) < (k : Int) := by omega
          have hiz2 : (i : Int) < (q.bn : Int) := by omega
          have hin : i < q.BY.length := by omega
          have hrow := HQ.out.by_.row.keep (Nat.le_refl _) (bthen HB1.out HB.out)
          obtain ⟨b, off, hAe, q0⟩ := text_cell hrow hkz
          obtain ⟨b2, off2, hAe2, q1⟩ := text_cell hrow hin
          rw [hAe] at hAe2
          cases hAe2
          obtain ⟨x, hx⟩ : ∃ x, x = q.BY[k]'hkz := ⟨_, rfl⟩
          obtain ⟨y, hy⟩ : ∃ y, y = q.BY[i]'hin := ⟨_, rfl⟩
          rw [← hx] at q0
          rw [← hy] at q1
          rw [hAe] at c4
          have HX := Lib.hid hx
          have HY := Lib.hid hy
          clear hrow hAe hx hy hit
          by_cases hxy : x = y
          · have HE := Lib.hid (show oo = false by
              rw [HOO.out]
              have : apartB q.BY = false := by
                rw [Bool.eq_false_iff]
                intro e
                exact (apartB_iff _).1 e i k (by omega) hkz (by rw [← HX.out, ← HY.out, hxy])
              unfold boundedS
              rw [this]; rfl)
            subst hxy
            go_upto_region 7 with fail
            go_quiet (fail)
            go_wp2_with fail
            go_ret
            exact ⟨by rw [HE.out]; rfl, bthen HB1.out (below_drewN HB.out _)⟩
          · have hne := str_ne hxy
            have HS2 := Lib.hid (show ∀ (j : Nat) (hj : j < k), j < i + 1 → q.BY[j]'(Nat.lt_trans hj HKZ.out) ≠ q.BY[k]'HKZ.out from fun j hj hji => by
              rcases Nat.lt_or_ge j i with e | e
              · exact HS1.out j hj e
              · obtain rfl : j = i := by omega
                rw [← HX.out, ← HY.out]
                exact fun e => hxy e.symm)
            clear hxy
            go_upto_region 7 with fail
            go_quiet (fail)
            go_wp2_with fail
            go_roundw
            case rel => exact ⟨i + 1, by omega, by go_num, HS2, Lib.hid (below_drewN HB.out _)⟩
            case measure => simp [intOf]; omega
        · obtain rfl : i = k := by omega
          have hiz1 : ¬ (i : Int) < (i : Int) := by omega
          have HS2 := Lib.hid (show ∀ (a j : Nat) (hij : a < j) (h : j < q.BY.length), j < i + 1 → q.BY[a]'(Nat.lt_trans hij h) ≠ q.BY[j] from fun a j hij h hj => by
            rcases Nat.lt_or_ge j i with e | e
            · exact HS.out a j hij h e
            · obtain rfl : j = i := by omega
              exact HS1.out a hij hij)
          clear hit
          go_wp2_with fail
          go_roundw
          case rel => exact ⟨i + 1, by omega, by go_num, HS2, HB⟩
          case measure => simp [intOf]; omega
    · obtain rfl : k = q.bn := by omega
      have hkz1 : ¬ (q.bn : Int) < (q.bn : Int) := by omega
      have HAP := Lib.hid (show oo = numsS bv q by
        rw [HOO.out]
        unfold boundedS
        rw [(apartB_iff q.BY).2 (fun i j hij h => HS.out i j hij h (by have := HQ.out.by_.len; omega))]; rfl)
      have hqb := HQB.out.below HB.out
      have c5 : wr.cell? ⟨Q, 5, none⟩ = some (.int .i64 q.f.op) := by rw [hqb.cell 5]; rfl
      have c6 : wr.cell? ⟨Q, 6, none⟩ = some (.string q.f.dim) := by rw [hqb.cell 6]; rfl
      have c7 : wr.cell? ⟨Q, 7, none⟩ = some (.string q.f.val) := by rw [hqb.cell 7]; rfl
      have c8 : wr.cell? ⟨Q, 8, none⟩ = some (.slice q.f.A q.f.n q.f.c) := by rw [hqb.cell 8]; rfl
      have HVW := Lib.hid (HV.out wr HB.out)
      clear hlt hqb
      go_upto_region 10 with (go_at_call 72; refine HVW.out.mono ?_; rintro e w2 ⟨rfl, hb⟩; have HB2 := Lib.hid (bthen HB.out hb); have hqb := HQB.out.below (bthen HB.out hb); have c0 : w2.cell? ⟨Q, 0, none⟩ = some (.slice q.tA q.tn q.tc) := (by rw [hqb.cell 0]; rfl); have c1 : w2.cell? ⟨Q, 1, none⟩ = some (.int .i64 q.frm) := (by rw [hqb.cell 1]; rfl); have c2 : w2.cell? ⟨Q, 2, none⟩ = some (.int .i64 q.upto) := (by rw [hqb.cell 2]; rfl); have c3 : w2.cell? ⟨Q, 3, none⟩ = some (.int .i64 q.every) := (by rw [hqb.cell 3]; rfl); have c10 : w2.cell? ⟨Q, 10, none⟩ = some (.int .i64 q.order) := (by rw [hqb.cell 10]; rfl); have c11 : w2.cell? ⟨Q, 11, none⟩ = some (.int .i64 q.limit) := (by rw [hqb.cell 11]; rfl); clear hb hqb)
      clear c4 c5 c6 c7 c8
      obtain ⟨gb, hgb⟩ : ∃ b, b = granB q.every := ⟨_, rfl⟩
      have HGB := Lib.hid hgb
      clear hgb
      go_cut [6] (fun v6 wx => v6 = .bool gb ∧ wx = w2)
      case first =>
        by_cases e0 : q.every = 0
        · have HG := Lib.hid (show gb = true by rw [HGB.out]; simp [granB, e0])
          rw [e0] at c3
          go_wp2_with fail
          go_meet
          case rel => exact ⟨by rw [HG.out], rfl⟩
        · have e0b : (q.every == 0) = false := by simp [e0]
          by_cases eg : okGran q.every
          · have HG := Lib.hid (show gb = true by rw [HGB.out]; simp [granB, eg])
            have HGR := Lib.hid (fun W => rright_yes q.every W eg)
            clear eg
            go_wp2_with (go_at_call 58; refine (HGR.out _).mono ?_; rintro e w3 ⟨rfl, rfl⟩)
            go_meet
            case rel => exact ⟨by rw [HG.out], rfl⟩
          · have HG := Lib.hid (show gb = false by rw [HGB.out]; simp [granB, e0, eg])
            have HGR := Lib.hid (fun W => rright_no q.every W eg)
            clear eg
            go_wp2_with (go_at_call 58; refine (HGR.out _).mono ?_; rintro e w3 ⟨rfl, rfl⟩)
            go_meet
            case rel => exact ⟨by rw [HG.out], rfl⟩
      case rest =>
      obtain ⟨rfl, rfl⟩ := hcut
      have HAQ := Lib.hid (show oo = (bv && decide (0 ≤ q.frm) && decide (q.frm < q.upto) && decide (q.upto ≤ 1099511627776) && gb && decide (-(q.tn : Int) ≤ q.order) && decide (q.order ≤ (q.tn : Int)) && decide (0 ≤ q.limit) && decide (q.limit ≤ 1000)) by rw [HAP.out, HGB.out]; rfl)
      clear HAP c3
      cases bv with
      | false =>
        have HE := Lib.hid (show oo = false by rw [HAQ.out]; simp)
        go_wp2_with fail
        go_ret
        exact ⟨by rw [HE.out]; rfl, bthen HB1.out HB2.out⟩
      | true =>
      cases gb with
      | false =>
        have HE := Lib.hid (show oo = false by rw [HAQ.out]; simp)
        go_wp2_with fail
        go_ret
        exact ⟨by rw [HE.out]; rfl, bthen HB1.out HB2.out⟩
      | true =>
      by_cases k0 : q.frm < 0
      · have HE := Lib.hid (show oo = false by rw [HAQ.out]; rw [decide_eq_false (show ¬ 0 ≤ q.frm by omega)]; simp)
        have k0n : ¬ 0 ≤ q.frm := by omega
        go_wp2_with fail
        go_ret
        exact ⟨by rw [HE.out]; rfl, bthen HB1.out HB2.out⟩
      have k0n : 0 ≤ q.frm := by omega
      by_cases k1 : q.upto ≤ q.frm
      · have HE := Lib.hid (show oo = false by rw [HAQ.out]; rw [decide_eq_false (show ¬ q.frm < q.upto by omega)]; simp)
        have k1n : ¬ q.frm < q.upto := by omega
        go_wp2_with fail
        go_ret
        exact ⟨by rw [HE.out]; rfl, bthen HB1.out HB2.out⟩
      have k1n : q.frm < q.upto := by omega
      by_cases k2 : 1099511627776 < q.upto
      · have HE := Lib.hid (show oo = false by rw [HAQ.out]; rw [decide_eq_false (show ¬ q.upto ≤ 1099511627776 by omega)]; simp)
        have k2n : ¬ q.upto ≤ 1099511627776 := by omega
        go_wp2_with fail
        go_ret
        exact ⟨by rw [HE.out]; rfl, bthen HB1.out HB2.out⟩
      have k2n : q.upto ≤ 1099511627776 := by omega
      by_cases k3 : q.order < -(q.tn : Int)
      · have HE := Lib.hid (show oo = false by rw [HAQ.out]; rw [decide_eq_false (show ¬ -(q.tn : Int) ≤ q.order by omega)]; simp)
        have k3n : ¬ -(q.tn : Int) ≤ q.order := by omega
        go_wp2_with fail
        go_ret
        exact ⟨by rw [HE.out]; rfl, bthen HB1.out HB2.out⟩
      have k3n : -(q.tn : Int) ≤ q.order := by omega
      by_cases k4 : (q.tn : Int) < q.order
      · have HE := Lib.hid (show oo = false by rw [HAQ.out]; rw [decide_eq_false (show ¬ q.order ≤ (q.tn : Int) by omega)]; simp)
        have k4n : ¬ q.order ≤ (q.tn : Int) := by omega
        go_wp2_with fail
        go_ret
        exact ⟨by rw [HE.out]; rfl, bthen HB1.out HB2.out⟩
      have k4n : q.order ≤ (q.tn : Int) := by omega
      by_cases k5 : q.limit < 0
      · have HE := Lib.hid (show oo = false by rw [HAQ.out]; rw [decide_eq_false (show ¬ 0 ≤ q.limit by omega)]; simp)
        have k5n : ¬ 0 ≤ q.limit := by omega
        go_wp2_with fail
        go_ret
        exact ⟨by rw [HE.out]; rfl, bthen HB1.out HB2.out⟩
      have k5n : 0 ≤ q.limit := by omega
      have HE := Lib.hid (show oo = decide (q.limit ≤ 1000) by rw [HAQ.out]; rw [decide_eq_true k0n, decide_eq_true k1n, decide_eq_true k2n, decide_eq_true k3n, decide_eq_true k4n, decide_eq_true k5n]; simp)
      go_wp2_with fail
      go_ret
      exact ⟨by rw [HE.out]; rfl, bthen HB1.out HB2.out⟩
end Go.Proofs.Ytgaallkdfcckpaa
