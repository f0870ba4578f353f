/- Whether a query's values and numbers are such as they may be: the program's bounded (21) and the document's types (24). -/
import Derived.Test.YtjfkgiflakfjfaaFQ
import Derived.Deep.QuietTactic
import Derived.BigQuiet
namespace Go.Proofs.Ytjfkgiflakfjfaa
open Go.RowKit Go.Maps Go.Lib Go.Shelf
set_option linter.unusedSimpArgs false
set_option linter.unusedVariables false
noncomputable def lfV (x : FT) : Bool := valB x.val
noncomputable def apartB (L : List ByteArray) : Bool := @decide (apartP L) (Classical.propDecidable _)
theorem apartB_iff (L : List ByteArray) : apartB L = true ↔ apartP L := by unfold apartB; exact @decide_eq_true_iff _ (Classical.propDecidable _)
noncomputable def granB (e : Int) : Bool := decide (e = 0) || decide (okGran e)
noncomputable def numsS (v : Bool) (q : QZ) : Bool := v && decide (0 ≤ q.frm) && decide (q.frm < q.upto) && decide (q.upto ≤ 1099511627776) && granB q.every && decide (-(q.tn : Int) ≤ q.order) && decide (q.order ≤ (q.tn : Int)) && decide (0 ≤ q.limit) && decide (q.limit ≤ 1000)
noncomputable def boundedS (v : Bool) (q : QZ) : Bool := apartB q.BY && numsS v q
set_option maxRecDepth 100000 in
set_option maxHeartbeats 32000000 in
theorem bounded_any (q : QZ) (w : World) (hq : QIn w q) :
    Calls Try.prog 21 #[.agg #[.slice q.tA q.tn q.tc, .int .i64 q.frm, .int .i64 q.upto, .int .i64 q.every, .slice q.bA q.bn q.bc, .int .i64 q.f.op, .string q.f.dim, .string q.f.val, .slice q.f.A q.f.n q.f.c, .slice q.hA q.hn q.hc, .int .i64 q.order, .int .i64 q.limit]] w fun e w' => e = .returned (.bool (boundedS (q.f.leaves.all lfV) q)) ∧ Below w.heap.size w w' := by
  obtain ⟨w1, hw1⟩ : ∃ w1, w1 = (w.alloc (.cells #[.slice q.tA q.tn q.tc, .int .i64 q.frm, .int .i64 q.upto, .int .i64 q.every, .slice q.bA q.bn q.bc, .int .i64 q.f.op, .string q.f.dim, .string q.f.val, .slice q.f.A q.f.n q.f.c, .slice q.hA q.hn q.hc, .int .i64 q.order, .int .i64 q.limit] 32)).alloc (.cells #[.bool true] 4) := ⟨_, rfl⟩
  have hb1 : Below w.heap.size w w1 := by rw [hw1]; exact bpush (bpush (Below.refl _ _) _) _
  have hQB : Blk w1 w.heap.size 32 #[.slice q.tA q.tn q.tc, .int .i64 q.frm, .int .i64 q.upto, .int .i64 q.every, .slice q.bA q.bn q.bc, .int .i64 q.f.op, .string q.f.dim, .string q.f.val, .slice q.f.A q.f.n q.f.c, .slice q.hA q.hn q.hc, .int .i64 q.order, .int .i64 q.limit] := by
    rw [hw1]; exact (Blk.new w 32 #[.slice q.tA q.tn q.tc, .int .i64 q.frm, .int .i64 q.upto, .int .i64 q.every, .slice q.bA q.bn q.bc, .int .i64 q.f.op, .string q.f.dim, .string q.f.val, .slice q.f.A q.f.n q.f.c, .slice q.hA q.hn q.hc, .int .i64 q.order, .int .i64 q.limit]).below (bpush (Below.refl _ _) _)
  have hPB : Blk w1 (w.heap.size + 1) 4 #[.bool true] := by
    have := Blk.new (w.alloc (.cells #[.slice q.tA q.tn q.tc, .int .i64 q.frm, .int .i64 q.upto, .int .i64 q.every, .slice q.bA q.bn q.bc, .int .i64 q.f.op, .string q.f.dim, .string q.f.val, .slice q.f.A q.f.n q.f.c, .slice q.hA q.hn q.hc, .int .i64 q.order, .int .i64 q.limit] 32)) 4 #[.bool true]
    rw [hw1]; simpa using this
  obtain ⟨P, hPe⟩ : ∃ P, P = w.heap.size + 1 := ⟨_, rfl⟩
  obtain ⟨Q, hQe⟩ : ∃ Q, Q = w.heap.size := ⟨_, rfl⟩
  have HPW := Lib.hid (show w.heap.size ≤ P by omega)
  have HQP := Lib.hid (show Q ≠ P by omega)
  rw [← hPe] at hPB
  rw [← hQe] at hQB
  have HB1 := Lib.hid hb1
  have HQB := Lib.hid hQB
  have HQ := Lib.hid hq
  have HW1 := Lib.hid hw1
  have HPE := Lib.hid hPe
  have HQE := Lib.hid hQe
  have hST0 : NmSt w w1 P true w1 := ⟨Fr.refl _ _, hPB⟩
  have hTK : Taker 43 #[.pointer (some ⟨P, 0, none⟩)] w q.f.leaves.length (fun W Lf => NmSt w w1 P (Lf.all lfV) W) := {
    fn := fun args w => rfl
    old := fun W Lf h => h.below HB1.out HPW.out
    more := fun W W' Lf h hb => h.more hb
    call := fun W Lf x _ h hx => by
      refine (take43 P x _ W (by have := hx.top.val; omega) h.blk).mono ?_
      rintro e W' ⟨rfl, hp, hf⟩
      refine ⟨rfl, ?_, keep_of_fr h.blk hf⟩
      have := h.upd hp hf
      rw [all_snoc]
      exact this }
  have HLV := Lib.hid (leaves_any hTK q.f w1 [] hq.f (by simp) (by simpa using hST0))
  have c5 : w1.cell? ⟨Q, 5, none⟩ = some (.int .i64 q.f.op) := by rw [hQB.cell 5]; rfl
  have c6 : w1.cell? ⟨Q, 6, none⟩ = some (.string q.f.dim) := by rw [hQB.cell 6]; rfl
  have c7 : w1.cell? ⟨Q, 7, none⟩ = some (.string q.f.val) := by rw [hQB.cell 7]; rfl
  have c8 : w1.cell? ⟨Q, 8, none⟩ = some (.slice q.f.A q.f.n q.f.c) := by rw [hQB.cell 8]; rfl
  have hbn := hq.by_.max
  have hbc := hq.by_.cap
  have htn := hq.tmax
  obtain ⟨oo, hoo⟩ : ∃ o, o = boundedS (q.f.leaves.all lfV) q := ⟨_, rfl⟩
  rw [← hoo]
  have HOO := Lib.hid hoo
  clear hw1 hb1 hQB hPB hq hPe hQe hoo hST0 hTK
  go_enter Try.func21, Try.ntmps21
  go_upto_region 2 with fail
  rw [← HW1.out, ← HPE.out, ← HQE.out]
  go_upto_region 3 with (go_at_call 26; refine HLV.out.mono ?_; rintro e w2 ⟨rfl, hi, -⟩; have HN2 := Lib.hid hi; have HQB2 := Lib.hid (hi.old HQB.out HQP.out); have c4 : w2.cell? ⟨Q, 4, none⟩ = some (.slice q.bA q.bn q.bc) := (by rw [HQB2.out.cell 4]; rfl); clear hi)
  clear c5 c6 c7 c8
  rw [List.nil_append] at HN2
  obtain ⟨bv, hbv⟩ : ∃ b, b = q.f.leaves.all lfV := ⟨_, rfl⟩
  rw [← hbv] at HN2 HOO
  clear hbv
  go_upto_region 4 with fail
  go_loopw [13] (fun v13 wr => ∃ k : Nat, k ≤ q.bn ∧ v13 = .int .i64 k ∧ Hid (∀ (i j : Nat) (hij : i < j) (h : j < q.BY.length), j < k → q.BY[i]'(Nat.lt_trans hij h) ≠ q.BY[j]) ∧ wr = w2) (fun i _ => q.bn - (intOf i).toNat)
  case atStart => exact ⟨0, by omega, rfl, Lib.hid (fun i j _ _ h => by omega), rfl⟩
  case round =>
    obtain ⟨k, hk, rfl, HS, rfl⟩ := hrel
    by_cases hlt : k < q.bn
    · have hkz0 : (0 : Int) ≤ (k : Int) := by omega
      have hkz1 : (k : Int) < (q.bn : Int) := by omega
      have hkz : k < q.BY.length := by have := HQ.out.by_.len; omega
      have hBW := HN2.out.below HB1.out HPW.out
      have hrow := HQ.out.by_.row.keep (Nat.le_refl _) hBW
      obtain ⟨b, off, hAe, q0⟩ := text_cell hrow hkz
      obtain ⟨x, hx⟩ : ∃ x, x = q.BY[k] := ⟨_, rfl⟩
      rw [← hx] at q0
      have HX := Lib.hid hx
      obtain ⟨r, hr⟩ := bool_of (x ∈ q.BY.take k)
      have HC := Lib.hid (contains_any q.bA k q.bc (q.BY.take k) x wr (hrow.front k) (by rw [List.length_take]; omega) (by omega) r hr)
      have HR := Lib.hid hr
      have hkc : (k : Int) ≤ (q.bc : Int) := by omega
      rw [hAe] at HC c4
      rw [hAe]
      clear hx hBW hrow hr hAe
      cases r with
      | true =>
        have HE := Lib.hid (show oo = false by
          rw [HOO.out]
          have : apartB q.BY = false := by
            rw [Bool.eq_false_iff]
            intro e
            obtain ⟨j, hj, e2⟩ := List.getElem_of_mem (HR.out.1 rfl)
            rw [List.length_take] at hj
            rw [List.getElem_take] at e2
            exact (apartB_iff _).1 e j k (by omega) hkz (by rw [e2]; exact HX.out)
          unfold boundedS
          rw [this]; rfl)
        go_wp2_with (go_at_call 28; refine HC.out.mono ?_; rintro e w3 ⟨rfl, rfl⟩)
        go_ret
        exact ⟨by rw [HE.out]; rfl, HN2.out.below HB1.out HPW.out⟩
      | false =>
        have HS2 := Lib.hid (show ∀ (i j : Nat) (hij : i < j) (h : j < q.BY.length), j < k + 1 → q.BY[i]'(Nat.lt_trans hij h) ≠ q.BY[j] from fun i j hij h hj => by
          rcases Nat.lt_or_ge j k with e | e
          · exact HS.out i j hij h e
          · obtain rfl : j = k := by omega
            intro e2
            have : x ∈ q.BY.take j := by
              rw [HX.out, ← e2]
              exact List.mem_iff_getElem.2 ⟨i, by rw [List.length_take]; omega, by rw [List.getElem_take]⟩
            have := HR.out.2 this
            cases this)
        clear hlt
        go_wp2_with (go_at_call 28; refine HC.out.mono ?_; rintro e w3 ⟨rfl, rfl⟩)
        go_roundw
        case rel => exact ⟨k + 1, by omega, by go_num, HS2, by first | rfl | trivial⟩
        case measure => simp [intOf]; omega
    · obtain rfl : k = q.bn := by omega
      have hkz1 : ¬ (q.bn : Int) < (q.bn : Int) := by omega
      have HAP := Lib.hid (show oo = numsS bv q by
        rw [HOO.out]
        unfold boundedS
        rw [(apartB_iff q.BY).2 (fun i j hij h => HS.out i j hij h (by have := HQ.out.by_.len; omega))]; rfl)
      have cP : wr.cell? ⟨P, 0, none⟩ = some (.bool bv) := by rw [HN2.out.blk.cell 0]; rfl
      have c1 : wr.cell? ⟨Q, 1, none⟩ = some (.int .i64 q.frm) := by rw [HQB2.out.cell 1]; rfl
      have c2 : wr.cell? ⟨Q, 2, none⟩ = some (.int .i64 q.upto) := by rw [HQB2.out.cell 2]; rfl
      have c3 : wr.cell? ⟨Q, 3, none⟩ = some (.int .i64 q.every) := by rw [HQB2.out.cell 3]; rfl
      have c0 : wr.cell? ⟨Q, 0, none⟩ = some (.slice q.tA q.tn q.tc) := by rw [HQB2.out.cell 0]; rfl
      have c10 : wr.cell? ⟨Q, 10, none⟩ = some (.int .i64 q.order) := by rw [HQB2.out.cell 10]; rfl
      have c11 : wr.cell? ⟨Q, 11, none⟩ = some (.int .i64 q.limit) := by rw [HQB2.out.cell 11]; rfl
      clear hlt c4
      cases bv with
      | false =>
        have HE := Lib.hid (show oo = false by rw [HAP.out]; simp [numsS])
        go_wp2_with fail
        go_ret
        exact ⟨by rw [HE.out]; rfl, HN2.out.below HB1.out HPW.out⟩
      | true =>
      by_cases k0 : q.frm < 0
      · have HE := Lib.hid (show oo = false by rw [HAP.out]; unfold numsS; rw [decide_eq_false (show ¬ 0 ≤ q.frm by omega)]; simp)
        have k0n : ¬ 0 ≤ q.frm := by omega
        go_wp2_with fail
        go_ret
        exact ⟨by rw [HE.out]; rfl, HN2.out.below HB1.out HPW.out⟩
      have k0n : 0 ≤ q.frm := by omega
      by_cases k1 : q.upto ≤ q.frm
      · have HE := Lib.hid (show oo = false by rw [HAP.out]; unfold numsS; rw [decide_eq_false (show ¬ q.frm < q.upto by omega)]; simp)
        have k1n : ¬ q.frm < q.upto := by omega
        go_wp2_with fail
        go_ret
        exact ⟨by rw [HE.out]; rfl, HN2.out.below HB1.out HPW.out⟩
      have k1n : q.frm < q.upto := by omega
      by_cases k2 : 1099511627776 < q.upto
      · have HE := Lib.hid (show oo = false by rw [HAP.out]; unfold numsS; rw [decide_eq_false (show ¬ q.upto ≤ 1099511627776 by omega)]; simp)
        have k2n : ¬ q.upto ≤ 1099511627776 := by omega
        go_wp2_with fail
        go_ret
        exact ⟨by rw [HE.out]; rfl, HN2.out.below HB1.out HPW.out⟩
      have k2n : q.upto ≤ 1099511627776 := by omega
      have HAQ := Lib.hid (show oo = (granB q.every && decide (-(q.tn : Int) ≤ q.order) && decide (q.order ≤ (q.tn : Int)) && decide (0 ≤ q.limit) && decide (q.limit ≤ 1000)) by
        rw [HAP.out]; unfold numsS; rw [decide_eq_true k0n, decide_eq_true k1n, decide_eq_true k2n]; simp)
      clear HAP
      by_cases e0 : q.every = 0
      · have HAR := Lib.hid (show oo = (decide (-(q.tn : Int) ≤ q.order) && decide (q.order ≤ (q.tn : Int)) && decide (0 ≤ q.limit) && decide (q.limit ≤ 1000)) by rw [HAQ.out]; simp [granB, e0])
        rw [e0] at c3
        by_cases m0 : q.order < -(q.tn : Int)
        · have HE := Lib.hid (show oo = false by rw [HAR.out]; rw [decide_eq_false (show ¬ -(q.tn : Int) ≤ q.order by omega)]; simp)
          have m0n : ¬ -(q.tn : Int) ≤ q.order := by omega
          go_wp2_with fail
          go_ret
          exact ⟨by rw [HE.out]; rfl, HN2.out.below HB1.out HPW.out⟩
        have m0n : -(q.tn : Int) ≤ q.order := by omega
        by_cases m1 : (q.tn : Int) < q.order
        · have HE := Lib.hid (show oo = false by rw [HAR.out]; rw [decide_eq_false (show ¬ q.order ≤ (q.tn : Int) by omega)]; simp)
          have m1n : ¬ q.order ≤ (q.tn : Int) := by omega
          go_wp2_with fail
          go_ret
          exact ⟨by rw [HE.out]; rfl, HN2.out.below HB1.out HPW.out⟩
        have m1n : q.order ≤ (q.tn : Int) := by omega
        by_cases m2 : q.limit < 0
        · have HE := Lib.hid (show oo = false by rw [HAR.out]; rw [decide_eq_false (show ¬ 0 ≤ q.limit by omega)]; simp)
          have m2n : ¬ 0 ≤ q.limit := by omega
          go_wp2_with fail
          go_ret
          exact ⟨by rw [HE.out]; rfl, HN2.out.below HB1.out HPW.out⟩
        have m2n : 0 ≤ q.limit := by omega
        have HE := Lib.hid (show oo = decide (q.limit ≤ 1000) by rw [HAR.out]; rw [decide_eq_true m0n, decide_eq_true m1n, decide_eq_true m2n]; simp)
        go_wp2_with fail
        go_ret
        exact ⟨by rw [HE.out]; rfl, HN2.out.below HB1.out HPW.out⟩
      have e0b : (q.every == 0) = false := by simp [e0]
      by_cases eg : okGran q.every
      · have HAR := Lib.hid (show oo = (decide (-(q.tn : Int) ≤ q.order) && decide (q.order ≤ (q.tn : Int)) && decide (0 ≤ q.limit) && decide (q.limit ≤ 1000)) by rw [HAQ.out]; simp [granB, eg])
        have HGR := Lib.hid (fun W => right_yes q.every W eg)
        clear eg
        by_cases m0 : q.order < -(q.tn : Int)
        · have HE := Lib.hid (show oo = false by rw [HAR.out]; rw [decide_eq_false (show ¬ -(q.tn : Int) ≤ q.order by omega)]; simp)
          have m0n : ¬ -(q.tn : Int) ≤ q.order := by omega
          go_wp2_with (go_at_call 45; refine (HGR.out _).mono ?_; rintro e w3 ⟨rfl, rfl⟩)
          go_ret
          exact ⟨by rw [HE.out]; rfl, HN2.out.below HB1.out HPW.out⟩
        have m0n : -(q.tn : Int) ≤ q.order := by omega
        by_cases m1 : (q.tn : Int) < q.order
        · have HE := Lib.hid (show oo = false by rw [HAR.out]; rw [decide_eq_false (show ¬ q.order ≤ (q.tn : Int) by omega)]; simp)
          have m1n : ¬ q.order ≤ (q.tn : Int) := by omega
          go_wp2_with (go_at_call 45; refine (HGR.out _).mono ?_; rintro e w3 ⟨rfl, rfl⟩)
          go_ret
          exact ⟨by rw [HE.out]; rfl, HN2.out.below HB1.out HPW.out⟩
        have m1n : q.order ≤ (q.tn : Int) := by omega
        by_cases m2 : q.limit < 0
        · have HE := Lib.hid (show oo = false by rw [HAR.out]; rw [decide_eq_false (show ¬ 0 ≤ q.limit by omega)]; simp)
          have m2n : ¬ 0 ≤ q.limit := by omega
          go_wp2_with (go_at_call 45; refine (HGR.out _).mono ?_; rintro e w3 ⟨rfl, rfl⟩)
          go_ret
          exact ⟨by rw [HE.out]; rfl, HN2.out.below HB1.out HPW.out⟩
        have m2n : 0 ≤ q.limit := by omega
        have HE := Lib.hid (show oo = decide (q.limit ≤ 1000) by rw [HAR.out]; rw [decide_eq_true m0n, decide_eq_true m1n, decide_eq_true m2n]; simp)
        go_wp2_with (go_at_call 45; refine (HGR.out _).mono ?_; rintro e w3 ⟨rfl, rfl⟩)
        go_ret
        exact ⟨by rw [HE.out]; rfl, HN2.out.below HB1.out HPW.out⟩
      · have HE := Lib.hid (show oo = false by rw [HAQ.out]; simp [granB, e0, eg])
        have HGR := Lib.hid (fun W => right_no q.every W eg)
        clear eg
        go_wp2_with (go_at_call 45; refine (HGR.out _).mono ?_; rintro e w3 ⟨rfl, rfl⟩)
        go_ret
        exact ⟨by rw [HE.out]; rfl, HN2.out.below HB1.out HPW.out⟩
end Go.Proofs.Ytjfkgiflakfjfaa
