/- The document's names (23). -/
import Derived.Test.YtgaallkdfcckpaaGB
import Derived.Test.YtgaallkdfcckpaaFZ

namespace Go.Proofs.Ytgaallkdfcckpaa
open Go.RowKit Go.Maps Go.Lib Go.Shelf
set_option linter.unusedSimpArgs false
set_option linter.unusedVariables false
set_option maxRecDepth 100000 in
set_option maxHeartbeats 64000000 in
theorem rnames_any (A B : Option Addr) (n c m d : Nat) (L M : List ByteArray) (q : QZ) (w : World) (hL : StrsIn w A n c L) (hM : StrsIn w B m d M) (hq : QIn w q) (hb20 : q.bn ≤ 1000) (hl : q.f.dims.length ≤ 1000) :
    Calls Try.prog 49 #[.agg #[.slice A n c, .slice B m d], .agg #[.slice q.tA q.tn q.tc, .int .i64 q.frm, .int .i64 q.upto, .int .i64 q.every, .slice q.bA q.bn q.bc, .int .i64 q.f.op, .string q.f.dim, .string q.f.val, .slice q.f.A q.f.n q.f.c, .slice q.hA q.hn q.hc, .int .i64 q.order, .int .i64 q.limit]] w fun e w' => e = .returned (.bool (namedS L M q)) ∧ Below w.heap.size w w' := by
  obtain ⟨w1, hw1⟩ : ∃ w1, w1 = (w.alloc (.cells #[.slice A n c, .slice B m d] 24)).alloc (.cells #[.slice q.tA q.tn q.tc, .int .i64 q.frm, .int .i64 q.upto, .int .i64 q.every, .slice q.bA q.bn q.bc, .int .i64 q.f.op, .string q.f.dim, .string q.f.val, .slice q.f.A q.f.n q.f.c, .slice q.hA q.hn q.hc, .int .i64 q.order, .int .i64 q.limit] 42) := ⟨_, rfl⟩
  have hb1 : Below w.heap.size w w1 := by rw [hw1]; exact bpush (bpush (Below.refl _ _) _) _
  have hSB : Blk w1 w.heap.size 24 #[.slice A n c, .slice B m d] := by
    rw [hw1]; exact (Blk.new w 24 #[.slice A n c, .slice B m d]).below (bpush (Below.refl _ _) _)
  have hQB : Blk w1 (w.heap.size + 1) 42 #[.slice q.tA q.tn q.tc, .int .i64 q.frm, .int .i64 q.upto, .int .i64 q.every, .slice q.bA q.bn q.bc, .int .i64 q.f.op, .string q.f.dim, .string q.f.val, .slice q.f.A q.f.n q.f.c, .slice q.hA q.hn q.hc, .int .i64 q.order, .int .i64 q.limit] := by
    have := Blk.new (w.alloc (.cells #[.slice A n c, .slice B m d] 24)) 42 #[.slice q.tA q.tn q.tc, .int .i64 q.frm, .int .i64 q.upto, .int .i64 q.every, .slice q.bA q.bn q.bc, .int .i64 q.f.op, .string q.f.dim, .string q.f.val, .slice q.f.A q.f.n q.f.c, .slice q.hA q.hn q.hc, .int .i64 q.order, .int .i64 q.limit]
    rw [hw1]; simpa using this
  obtain ⟨S, hSe⟩ : ∃ S, S = w.heap.size := ⟨_, rfl⟩
  obtain ⟨Q, hQe⟩ : ∃ Q, Q = w.heap.size + 1 := ⟨_, rfl⟩
  rw [← hSe] at hSB
  rw [← hQe] at hQB
  have HB1 := Lib.hid hb1
  have HSB := Lib.hid hSB
  have HQB := Lib.hid hQB
  have HW1 := Lib.hid hw1
  have HSE := Lib.hid hSe
  have HQE := Lib.hid hQe
  have HL := Lib.hid (hL.keep (Nat.le_refl _) hb1)
  have HQ := Lib.hid (hq.keep (Nat.le_refl _) hb1)
  have HM := Lib.hid (hM.keep (Nat.le_refl _) hb1)
  have hnn := hL.max
  have HB20 := Lib.hid hb20
  have HDL := Lib.hid hl
  obtain ⟨oo, hoo⟩ : ∃ o, o = namedS L M q := ⟨_, rfl⟩
  rw [← hoo]
  rw [named_eq] at hoo
  have HOO := Lib.hid hoo
  clear hw1 hb1 hSB hQB hL hM hq hSe hQe hl hb20 hoo
  go_enter Try.func49, Try.ntmps49
  go_upto_region 1 with fail
  rw [← HW1.out, ← HQE.out, ← HSE.out]
  have HDM := Lib.hid (fun W (hW : Below w1.heap.size w1 W) => dims_any q.f W (FIn.keep q.f HQ.out.f (Nat.le_refl _) hW) HDL.out)
  obtain ⟨DD, hDD⟩ : ∃ D, D = q.f.dims := ⟨_, rfl⟩
  rw [← hDD] at HDM HDL
  have HDD := Lib.hid hDD
  have HBL := Lib.hid (HQ.out.by_.len)
  have HBC := Lib.hid (HQ.out.by_.cap)
  have HBN := Lib.hid (HQ.out.by_.nil)
  have HBR := Lib.hid (HQ.out.by_.row)
  obtain ⟨bA, hbA⟩ : ∃ x, x = q.bA := ⟨_, rfl⟩
  obtain ⟨bn, hbn⟩ : ∃ x, x = q.bn := ⟨_, rfl⟩
  obtain ⟨bc, hbc⟩ : ∃ x, x = q.bc := ⟨_, rfl⟩
  rw [← hbn] at HBL HBC HB20
  rw [← hbA] at HBN HBR
  rw [← hbc] at HBC HBN
  have HBA := Lib.hid hbA
  have HBNE := Lib.hid hbn
  have HBCE := Lib.hid hbc
  have HCEL := Lib.hid (fun W (hW : Below w1.heap.size w1 W) => show W.cell? ⟨Q, 4, none⟩ = some (.slice bA bn bc) ∧ W.cell? ⟨Q, 5, none⟩ = some (.int .i64 q.f.op) ∧ W.cell? ⟨Q, 6, none⟩ = some (.string q.f.dim) ∧ W.cell? ⟨Q, 7, none⟩ = some (.string q.f.val) ∧ W.cell? ⟨Q, 8, none⟩ = some (.slice q.f.A q.f.n q.f.c) from by
    obtain ⟨-, -, -, -, c4, c5, c6, c7, c8, -, -, -⟩ := q_cells (HQB.out.below hW)
    rw [hbA, hbn, hbc]
    exact ⟨c4, c5, c6, c7, c8⟩)
  obtain ⟨c4, c5, c6, c7, c8⟩ := HCEL.out w1 (Below.refl _ _)
  clear hDD hbA hbn hbc
  go_region_held3 (fun w' => (w'.cell? ⟨Q, 4, none⟩ = some (.slice bA bn bc) ∧ w'.cell? ⟨Q, 5, none⟩ = some (.int .i64 q.f.op) ∧ w'.cell? ⟨Q, 6, none⟩ = some (.string q.f.dim) ∧ w'.cell? ⟨Q, 7, none⟩ = some (.string q.f.val) ∧ w'.cell? ⟨Q, 8, none⟩ = some (.slice q.f.A q.f.n q.f.c)) ∧ Below w1.heap.size w1 w')
    (first
      | exact ⟨HCEL.out _ (below_drewN (Below.refl _ _) 1), below_drewN (Below.refl _ _) 1⟩
      | exact ⟨HCEL.out _ (below_drewN (bpush (Below.refl _ _) _) 1), below_drewN (bpush (Below.refl _ _) _) 1⟩
      | exact ⟨HCEL.out _ hbz3, hbz3⟩
      | exact ⟨HCEL.out _ hbz2, hbz2⟩
      | exact ⟨HCEL.out _ hbz, hbz⟩)
    (first
      | (refine step_append_texts rfl _ _ rfl w1.heap.size (.slice (some ⟨w1.heap.size, 0, none⟩) 0 0) 0 [] rfl bA bn bc q.BY rfl ?own ?row HBL.out HBC.out HBN.out ?q1 ?q2 ?_
         case own => exact own_dr (own_empty (Nat.le_refl _)) 1
         case row => exact row_dr (HBR.out.keep (Nat.le_refl _) (bpush (Below.refl _ _) _)) 1
         case q1 => have := HB20.out; omega
         case q2 => simp
         intro v1 w6 ho1 hg1 _
         have hbz : Below w1.heap.size w1 w6 := (below_drewN (bpush (Below.refl _ _) _) 1).trans (grown_below (own_dr (own_empty (Nat.le_refl _)) 1) hg1 (by simp)))
      | (go_at_call 57
         refine (HDM.out _ hbz).mono ?_
         rintro e w7 ⟨v7, rfl, ho7, hb7⟩
         have hbz2 : Below w1.heap.size w1 w7 := bthen hbz hb7
         have ho1' := own_below ho1 hb7
         obtain ⟨A7, c7', rfl, hr7, hc7, hn7⟩ := own_slice ho7)
      | (refine step_append_texts rfl _ _ rfl w1.heap.size v1 (0 + bn) ([] ++ texts q.BY) rfl A7 DD.length c7' DD rfl ho1' hr7 rfl hc7 hn7 ?q1 ?q2 ?_
         case q1 => have := HB20.out; have := HDL.out; omega
         case q2 => exact hbz2.size
         intro v2 w8 ho2 hg2 _
         have hbz3 : Below w1.heap.size w1 w8 := hbz2.trans (grown_below ho1' hg2 hbz2.size)))
  obtain ⟨A8, k8, rfl, hr8, hc8, hn8⟩ := own_slice ho2
  have HB18 := Lib.hid hbz3
  obtain ⟨kl, hkl⟩ : ∃ kl, kl = 0 + bn + DD.length := ⟨_, rfl⟩
  have HKL := Lib.hid (show kl = (q.BY ++ q.f.dims).length by rw [hkl, List.length_append, HBL.out, HDD.out]; omega)
  have hkl2 : kl ≤ 9223372036854775807 := by have := HB20.out; have := HDL.out; omega
  have HR8 := Lib.hid (show Row w8 A8 (texts (q.BY ++ q.f.dims)) by
    have h := hr8
    rw [List.nil_append, texts_append, HDD.out] at h
    exact h)
  rw [← hkl]
  rw [← hkl] at hc8
  have HC8 := Lib.hid hc8
  clear ho2 hg2 ho1 ho1' hg1 hr7 hc7 hn7 ho7 hb7 hbz hbz2 hbz3 hr8 hc8 hn8 hkl c4 c5 c6 c7 c8
  obtain ⟨KK, hKK⟩ : ∃ K, K = usedK q := ⟨_, rfl⟩
  have HKK := Lib.hid (show q.BY ++ q.f.dims = KK by rw [hKK]; rfl)
  rw [HKK.out] at HKL HR8
  rw [← hKK] at HOO
  have HTN := Lib.hid HQ.out.tmax
  have HHN := Lib.hid HQ.out.hmax
  have hkl0 : kl ≤ k8 := HC8.out
  clear hKK
  go_upto_region 3 with fail
  go_loopw [6] (fun v6 wr => ∃ k : Nat, k ≤ kl ∧ v6 = .int .i64 k ∧ Hid (∀ (j : Nat) (h : j < KK.length), j < k → inT L KK[j] = true) ∧ Hid (Below w8.heap.size w8 wr)) (fun i _ => kl - (intOf i).toNat)
  case atStart => exact ⟨0, by omega, rfl, Lib.hid (fun j _ h => by omega), Lib.hid (Below.refl _ _)⟩
  case round =>
    obtain ⟨k, hk, rfl, HS, HB⟩ := hrel
    have HB1R := Lib.hid (bthen HB18.out HB.out)
    by_cases hlt : k < kl
    · have hkz0 : (0 : Int) ≤ (k : Int) := by omega
      have hkz1 : (k : Int) < (kl : Int) := by omega
      have hkz : k < KK.length := by have := HKL.out; omega
      obtain ⟨s0, s1⟩ := s_cells (HSB.out.below HB1R.out)
      clear s1
      obtain ⟨b, off, hAe, q0⟩ := text_cell (HR8.out.keep (Nat.le_refl _) HB.out) hkz
      obtain ⟨x, hx⟩ : ∃ x, x = KK[k]'hkz := ⟨_, rfl⟩
      rw [← hx] at q0
      obtain ⟨o, ho⟩ := first_ex L x
      have HC := Lib.hid (show ∀ z, Calls Try.prog 30 #[.slice A n c, .string x] (wr.drewN z) fun e w' => e = .returned (.tuple #[.int .i64 ((o.getD 0 : Nat) : Int), .bool o.isSome]) ∧ w' = wr.drewN z from fun z => find_is A n c L x o ho (wr.drewN z) (HL.out.row.keep (Nat.le_refl _) (below_drewN HB1R.out z)) HL.out.len hnn)
      obtain ⟨r, hr⟩ : ∃ r, r = o.isSome := ⟨_, rfl⟩
      have HRE := Lib.hid (show inT L (KK[k]'hkz) = r by rw [hr, ← hx]; exact (first_mem ho).symm)
      obtain ⟨og, hog⟩ : ∃ g, g = o.getD 0 := ⟨_, rfl⟩
      rw [← hr, ← hog] at HC
      rw [hAe]
      clear hlt hx hr hog hAe ho
      cases r with
      | false =>
        have HE := Lib.hid (show oo = false by rw [HOO.out, all_take_false hkz HRE.out]; rfl)
        go_upto_region 5 with fail
        go_quiet ((go_at_call 30; exact Calls.quiet_of_same (HC.out _)))
        go_wp2_with fail
        go_ret
        exact ⟨by rw [HE.out]; rfl, bthen HB1.out (below_drewN HB1R.out _)⟩
      | true =>
        have HS2 := Lib.hid (show ∀ (j : Nat) (h : j < KK.length), j < k + 1 → inT L KK[j] = true from fun j h hj => by
          rcases Nat.lt_or_ge j k with e | e
          · exact HS.out j h e
          · obtain rfl : j = k := by omega
            exact HRE.out)
        go_upto_region 5 with fail
        go_quiet ((go_at_call 30; exact Calls.quiet_of_same (HC.out _)))
        go_wp2_with fail
        go_roundw
        case rel => exact ⟨k + 1, by omega, by go_num, HS2, Lib.hid (below_drewN HB.out _)⟩
        case measure => simp [intOf]; omega
    · obtain rfl : k = kl := by omega
      have hkz1 : ¬ (k : Int) < (k : Int) := by omega
      have HTA := Lib.hid (show oo = (q.T.all (tmN M) && q.H.all (hvN M)) by
        rw [HOO.out, all_of (fun j h => HS.out j h (by have := HKL.out; omega)), Bool.true_and])
      obtain ⟨wo, rfl⟩ : ∃ wo : World, wo = wr := ⟨_, rfl⟩
      have htn := HTN.out
      clear hlt HS
      go_upto_region 9 with fail
      go_loopw [9] (fun v9 wr => ∃ k : Nat, k ≤ q.tn ∧ v9 = .int .i64 k ∧ Hid (∀ (j : Nat) (h : j < q.T.length), j < k → tmN M q.T[j] = true) ∧ Hid (Below w1.heap.size w1 wr)) (fun i _ => q.tn - (intOf i).toNat)
      case atStart => exact ⟨0, by omega, rfl, Lib.hid (fun j _ h => by omega), HB1R⟩
      case round =>
        clear HB HB1R
        obtain ⟨k, hk, rfl, HS, HB⟩ := hrel
        have c0 : wr.cell? ⟨Q, 0, none⟩ = some (.slice q.tA q.tn q.tc) := (q_cells (HQB.out.below HB.out)).1
        by_cases hlt : k < q.tn
        · have hkz0 : (0 : Int) ≤ (k : Int) := by omega
          have hkz1 : (k : Int) < (q.tn : Int) := by omega
          have hkz : k < q.T.length := by have := HQ.out.tlen; omega
          obtain ⟨b, off, hAe, -, -⟩ := term_cells (HQ.out.trow.keep (Nat.le_refl _) HB.out) hkz
          obtain ⟨x, hx⟩ : ∃ x, x = q.T[k]'hkz := ⟨_, rfl⟩
          have HCL := Lib.hid (fun W (hW : Below w1.heap.size w1 W) => show W.cell? ⟨Q, 0, none⟩ = some (.slice (some ⟨b, off, none⟩) q.tn q.tc) ∧ W.cell? ⟨S, 0, none⟩ = some (.slice A n c) ∧ W.cell? ⟨S, 1, none⟩ = some (.slice B m d) ∧ W.cell? ⟨b, off + k * 2, none⟩ = some (.int .i64 x.1) ∧ W.cell? ⟨b, off + k * 2 + 1, none⟩ = some (.string x.2) from by
            obtain ⟨b', off', hAe', q0, q1⟩ := term_cells (HQ.out.trow.keep (Nat.le_refl _) hW) hkz
            rw [hAe] at hAe'
            cases hAe'
            have h0 := (q_cells (HQB.out.below hW)).1
            rw [hAe] at h0
            obtain ⟨s0, s1⟩ := s_cells (HSB.out.below hW)
            rw [hx]
            exact ⟨h0, s0, s1, q0, q1⟩)
          have HC := Lib.hid (fun W (hW : Below w1.heap.size w1 W) => metric_any B A m d n c M x.1 x.2 W (HM.out.row.keep (Nat.le_refl _) hW) HM.out.len HM.out.max)
          obtain ⟨r, hr⟩ : ∃ r, r = (decide (x.1 = 0) || inT M x.2) := ⟨_, rfl⟩
          rw [← hr] at HC
          have HR := Lib.hid (show tmN M (q.T[k]'hkz) = r by rw [hr, hx]; rfl)
          rw [hAe] at c0
          clear hlt hx hr hAe
          obtain ⟨fn, s⟩ := x
          simp only at HCL HC
          have hkc : (k : Int) < (q.tc : Int) := by have := HQ.out.tcap; omega
          have hBw := HB.out
          have HBW := Lib.hid (show Below w1.heap.size w1 wr from hBw)
          clear hBw
          cases r with
          | false =>
            have HE := Lib.hid (show oo = false by rw [HTA.out, all_take_false hkz HR.out]; rfl)
            go_upto_region 11 with fail
            obtain ⟨x0, x1, x2, x3, x4⟩ := HCL.out wr HBW.out
            go_region_held3 (fun w' => (w'.cell? ⟨Q, 0, none⟩ = some (.slice (some ⟨b, off, none⟩) q.tn q.tc) ∧ w'.cell? ⟨S, 0, none⟩ = some (.slice A n c) ∧ w'.cell? ⟨S, 1, none⟩ = some (.slice B m d) ∧ w'.cell? ⟨b, off + k * 2, none⟩ = some (.int .i64 fn) ∧ w'.cell? ⟨b, off + k * 2 + 1, none⟩ = some (.string s)) ∧ Below w1.heap.size w1 w')
              (first
                | exact ⟨HCL.out _ hbz, hbz⟩
                | exact ⟨HCL.out _ (below_drewN HBW.out 1), below_drewN HBW.out 1⟩)
              (first
                | (go_at_call 71
                   refine (HC.out _ (below_drewN HBW.out 1)).mono ?_
                   rintro e w9 ⟨rfl, hb9⟩
                   have hbz : Below w1.heap.size w1 w9 := bthen (below_drewN HBW.out 1) hb9))
            have HBz := Lib.hid hbz
            clear x0 x1 x2 x3 x4
            go_wp2_with fail
            go_ret
            exact ⟨by rw [HE.out]; rfl, bthen HB1.out HBz.out⟩
          | true =>
            have HS2 := Lib.hid (show ∀ (j : Nat) (h : j < q.T.length), j < k + 1 → tmN M q.T[j] = true from fun j h hj => by
              rcases Nat.lt_or_ge j k with e | e
              · exact HS.out j h e
              · obtain rfl : j = k := by omega
                exact HR.out)
            go_upto_region 11 with fail
            obtain ⟨x0, x1, x2, x3, x4⟩ := HCL.out wr HBW.out
            go_region_held3 (fun w' => (w'.cell? ⟨Q, 0, none⟩ = some (.slice (some ⟨b, off, none⟩) q.tn q.tc) ∧ w'.cell? ⟨S, 0, none⟩ = some (.slice A n c) ∧ w'.cell? ⟨S, 1, none⟩ = some (.slice B m d) ∧ w'.cell? ⟨b, off + k * 2, none⟩ = some (.int .i64 fn) ∧ w'.cell? ⟨b, off + k * 2 + 1, none⟩ = some (.string s)) ∧ Below w1.heap.size w1 w')
              (first
                | exact ⟨HCL.out _ hbz, hbz⟩
                | exact ⟨HCL.out _ (below_drewN HBW.out 1), below_drewN HBW.out 1⟩)
              (first
                | (go_at_call 71
                   refine (HC.out _ (below_drewN HBW.out 1)).mono ?_
                   rintro e w9 ⟨rfl, hb9⟩
                   have hbz : Below w1.heap.size w1 w9 := bthen (below_drewN HBW.out 1) hb9))
            have HBz := Lib.hid hbz
            clear x0 x1 x2 x3 x4
            go_wp2_with fail
            go_roundw
            case rel => exact ⟨k + 1, by omega, by go_num, HS2, HBz⟩
            case measure => simp [intOf]; omega
        · obtain rfl : k = q.tn := by omega
          have hkz1 : ¬ (q.tn : Int) < (q.tn : Int) := by omega
          have HTB := Lib.hid (show oo = q.H.all (hvN M) by
            rw [HTA.out, all_of (fun j h => HS.out j h (by have := HQ.out.tlen; omega)), Bool.true_and])
          obtain ⟨wp, rfl⟩ : ∃ wp : World, wp = wr := ⟨_, rfl⟩
          have hhn := HHN.out
          clear hlt HS
          go_upto_region 15 with fail
          clear c0
          go_loopw [11] (fun v11 wr => ∃ k : Nat, k ≤ q.hn ∧ v11 = .int .i64 k ∧ Hid (∀ (j : Nat) (h : j < q.H.length), j < k → hvN M q.H[j] = true) ∧ Hid (Below w1.heap.size w1 wr)) (fun i _ => q.hn - (intOf i).toNat)
          case atStart => exact ⟨0, by omega, rfl, Lib.hid (fun j _ h => by omega), HB⟩
          case round =>
            clear HB
            obtain ⟨k, hk, rfl, HS, HB⟩ := hrel
            have c9 : wr.cell? ⟨Q, 9, none⟩ = some (.slice q.hA q.hn q.hc) := by rw [(HQB.out.below HB.out).cell 9]; rfl
            by_cases hlt : k < q.hn
            · have hkz0 : (0 : Int) ≤ (k : Int) := by omega
              have hkz1 : (k : Int) < (q.hn : Int) := by omega
              have hkz : k < q.H.length := by have := HQ.out.hlen; omega
              obtain ⟨b, off, hAe, -, -, -, -⟩ := having_cells (HQ.out.hrow.keep (Nat.le_refl _) HB.out) hkz
              obtain ⟨x, hx⟩ : ∃ x, x = q.H[k]'hkz := ⟨_, rfl⟩
              have HCL := Lib.hid (fun W (hW : Below w1.heap.size w1 W) => show W.cell? ⟨Q, 9, none⟩ = some (.slice (some ⟨b, off, none⟩) q.hn q.hc) ∧ W.cell? ⟨S, 0, none⟩ = some (.slice A n c) ∧ W.cell? ⟨S, 1, none⟩ = some (.slice B m d) ∧ W.cell? ⟨b, off + k * 4, none⟩ = some (.int .i64 x.1) ∧ W.cell? ⟨b, off + k * 4 + 1, none⟩ = some (.string x.2.1) from by
                obtain ⟨b', off', hAe', q0, q1, -, -⟩ := having_cells (HQ.out.hrow.keep (Nat.le_refl _) hW) hkz
                rw [hAe] at hAe'
                cases hAe'
                have h0 : W.cell? ⟨Q, 9, none⟩ = some (.slice q.hA q.hn q.hc) := by rw [(HQB.out.below hW).cell 9]; rfl
                rw [hAe] at h0
                obtain ⟨s0, s1⟩ := s_cells (HSB.out.below hW)
                rw [hx]
                exact ⟨h0, s0, s1, q0, q1⟩)
              have HC := Lib.hid (fun W (hW : Below w1.heap.size w1 W) => metric_any B A m d n c M x.1 x.2.1 W (HM.out.row.keep (Nat.le_refl _) hW) HM.out.len HM.out.max)
              obtain ⟨r, hr⟩ : ∃ r, r = (decide (x.1 = 0) || inT M x.2.1) := ⟨_, rfl⟩
              rw [← hr] at HC
              have HR := Lib.hid (show hvN M (q.H[k]'hkz) = r by rw [hr, hx]; rfl)
              rw [hAe] at c9
              clear hlt hx hr hAe
              obtain ⟨fn, s, sg, vl⟩ := x
              simp only at HCL HC
              have hkc : (k : Int) < (q.hc : Int) := by have := HQ.out.hcap; omega
              have HBW := HB
              cases r with
              | false =>
                have HE := Lib.hid (show oo = false by rw [HTB.out, all_take_false hkz HR.out])
                go_upto_region 17 with fail
                obtain ⟨x0, x1, x2, x3, x4⟩ := HCL.out wr HBW.out
                go_region_held3 (fun w' => (w'.cell? ⟨Q, 9, none⟩ = some (.slice (some ⟨b, off, none⟩) q.hn q.hc) ∧ w'.cell? ⟨S, 0, none⟩ = some (.slice A n c) ∧ w'.cell? ⟨S, 1, none⟩ = some (.slice B m d) ∧ w'.cell? ⟨b, off + k * 4, none⟩ = some (.int .i64 fn) ∧ w'.cell? ⟨b, off + k * 4 + 1, none⟩ = some (.string s)) ∧ Below w1.heap.size w1 w')
                  (first
                    | exact ⟨HCL.out _ hbz, hbz⟩
                    | exact ⟨HCL.out _ (below_drewN HBW.out 1), below_drewN HBW.out 1⟩)
                  (first
                    | (go_at_call 71
                       refine (HC.out _ (below_drewN HBW.out 1)).mono ?_
                       rintro e w9 ⟨rfl, hb9⟩
                       have hbz : Below w1.heap.size w1 w9 := bthen (below_drewN HBW.out 1) hb9))
                have HBz := Lib.hid hbz
                clear x0 x1 x2 x3 x4
                go_wp2_with fail
                go_ret
                exact ⟨by rw [HE.out]; rfl, bthen HB1.out HBz.out⟩
              | true =>
                have HS2 := Lib.hid (show ∀ (j : Nat) (h : j < q.H.length), j < k + 1 → hvN M q.H[j] = true from fun j h hj => by
                  rcases Nat.lt_or_ge j k with e | e
                  · exact HS.out j h e
                  · obtain rfl : j = k := by omega
                    exact HR.out)
                go_upto_region 17 with fail
                obtain ⟨x0, x1, x2, x3, x4⟩ := HCL.out wr HBW.out
                go_region_held3 (fun w' => (w'.cell? ⟨Q, 9, none⟩ = some (.slice (some ⟨b, off, none⟩) q.hn q.hc) ∧ w'.cell? ⟨S, 0, none⟩ = some (.slice A n c) ∧ w'.cell? ⟨S, 1, none⟩ = some (.slice B m d) ∧ w'.cell? ⟨b, off + k * 4, none⟩ = some (.int .i64 fn) ∧ w'.cell? ⟨b, off + k * 4 + 1, none⟩ = some (.string s)) ∧ Below w1.heap.size w1 w')
                  (first
                    | exact ⟨HCL.out _ hbz, hbz⟩
                    | exact ⟨HCL.out _ (below_drewN HBW.out 1), below_drewN HBW.out 1⟩)
                  (first
                    | (go_at_call 71
                       refine (HC.out _ (below_drewN HBW.out 1)).mono ?_
                       rintro e w9 ⟨rfl, hb9⟩
                       have hbz : Below w1.heap.size w1 w9 := bthen (below_drewN HBW.out 1) hb9))
                have HBz := Lib.hid hbz
                clear x0 x1 x2 x3 x4
                go_wp2_with fail
                go_roundw
                case rel => exact ⟨k + 1, by omega, by go_num, HS2, HBz⟩
                case measure => simp [intOf]; omega
            · obtain rfl : k = q.hn := by omega
              have hkz1 : ¬ (q.hn : Int) < (q.hn : Int) := by omega
              have HE := Lib.hid (show oo = true by
                rw [HTB.out, all_of (fun j h => HS.out j h (by have := HQ.out.hlen; omega))])
              clear hlt HS
              go_wp2_with fail
              go_ret
              exact ⟨by rw [HE.out]; rfl, bthen HB1.out HB.out⟩
end Go.Proofs.Ytgaallkdfcckpaa
