/- Lists of texts, of numbers; One (21), Same (13). -/
import Derived.Test.YthogafecplhckaaDoorNH
namespace Go.Proofs.YthogafecplhckaaDoor
open Go.RowKit
set_option linter.unusedSimpArgs false
set_option linter.unusedVariables false
set_option maxRecDepth 100000 in
set_option maxHeartbeats 4000000 in
theorem texts_any (A B : Option Addr) (na ca nb cb : Nat) (La Lb : List ByteArray) (w : World) (hA : Row w A (texts La)) (hB : Row w B (texts Lb)) (hna : na = La.length) (hnb : nb = Lb.length) (hn : na ≤ 9223372036854775807) (hn2 : nb ≤ 9223372036854775807) (r : Bool) (hr : r = true ↔ La = Lb) :
    Calls Tryd.prog 49 #[.slice A na ca, .slice B nb cb] w fun e w' => e = .returned (.bool r) ∧ Below w.heap.size w w' := by
  suffices hs : Calls Tryd.prog 49 #[.slice A na ca, .slice B nb cb] w fun e w' => e = .returned (.bool r) ∧ ∃ m, w' = w.drewN m by
    refine hs.mono ?_
    rintro e w' ⟨he, m, rfl⟩
    exact ⟨he, below_drewN (Below.refl _ _) m⟩
  have HR := Lib.hid hr
  have HA := Lib.hid hA
  have HB := Lib.hid hB
  have HNA := Lib.hid hna
  have HNB := Lib.hid hnb
  clear hr hA hB hna hnb
  by_cases hne : na = nb
  · subst hne
    go_enter Tryd.func49, Tryd.ntmps49
    go_wp2_with fail
    go_loopw [5] (fun i wr => ∃ k : Nat, k ≤ na ∧ i = .int .i64 k ∧ Hid (La.take k = Lb.take k) ∧ Hid (∃ m, wr = w.drewN m)) (fun i _ => na - (intOf i).toNat)
    case atStart => exact ⟨0, by omega, rfl, Lib.hid (by simp), Lib.hid ⟨0, rfl⟩⟩
    case round =>
      obtain ⟨k, hk, rfl, HE, HM⟩ := hrel
      obtain ⟨m, hm⟩ := HM.out
      by_cases hlt : k < na
      · have hka : k < La.length := by have := HNA.out; omega
        have hkb : k < Lb.length := by have := HNB.out; omega
        obtain ⟨ba, oa, rfl, c0⟩ := text_cell HA.out hka
        obtain ⟨bb, ob, rfl, c1⟩ := text_cell HB.out hkb
        obtain ⟨x, hx⟩ : ∃ x, x = La[k] := ⟨_, rfl⟩
        obtain ⟨y, hy⟩ : ∃ y, y = Lb[k] := ⟨_, rfl⟩
        rw [← hx] at c0
        rw [← hy] at c1
        have c3 : wr.cell? ⟨ba, oa + k, none⟩ = some (.string x) := by rw [hm]; simpa using c0
        have c4 : wr.cell? ⟨bb, ob + k, none⟩ = some (.string y) := by rw [hm]; simpa using c1
        have HX := Lib.hid hx
        have HY := Lib.hid hy
        have HM2 := Lib.hid (fun q => ⟨m + q, by rw [hm, World.drewN_drewN]⟩ : ∀ q, ∃ m, wr.drewN q = w.drewN m)
        have hk0 : (0 : Int) ≤ (k : Int) := by omega
        have hki : (k : Int) < (na : Int) := by omega
        clear hx hy c0 c1 hm HM
        by_cases e : x = y
        · have HE2 := Lib.hid (show La.take (k + 1) = Lb.take (k + 1) by
            rw [take_snoc _ _ hka, take_snoc _ _ hkb, HE.out, ← HX.out, ← HY.out, e])
          subst e
          clear HE HX HY
          go_wp2_with fail
          go_quiet (fail)
          go_wp2_with fail
          go_roundw
          case rel => exact ⟨k + 1, by omega, by go_num, HE2, Lib.hid (HM2.out _)⟩
          case measure => simp [intOf]; omega
        · obtain rfl : r = false := by
            rw [Bool.eq_false_iff]
            intro h
            refine e ?_
            have h2 := HR.out.1 h
            rw [HX.out, HY.out]; simp only [h2]
          have hd := str_ne e
          clear HE HR HX HY
          go_wp2_with fail
          go_quiet (fail)
          go_wp2_with fail
          go_ret
          exact ⟨rfl, HM2.out _⟩
      · obtain rfl : k = na := by omega
        obtain rfl : r = true := by
          refine HR.out.2 ?_
          have h := HE.out
          rw [List.take_of_length_le (by have := HNA.out; omega), List.take_of_length_le (by have := HNB.out; omega)] at h
          exact h
        have hlt2 : ¬ ((k : Int) < (k : Int)) := by omega
        clear HR HE
        have HMM := Lib.hid hm
        clear hm HM
        go_wp2_with fail
        go_ret
        exact ⟨rfl, m, HMM.out⟩
  · obtain rfl : r = false := by
      rw [Bool.eq_false_iff]
      intro h
      have h2 := HR.out.1 h
      refine hne ?_
      rw [HNA.out, HNB.out, h2]
    have hd : ((na : Int) != (nb : Int)) = true := by simp; omega
    clear HR
    go_enter Tryd.func49, Tryd.ntmps49
    go_wp2_with fail
    go_ret
    exact ⟨rfl, 0, rfl⟩
set_option maxRecDepth 100000 in
set_option maxHeartbeats 4000000 in
theorem ints_any (A B : Option Addr) (na ca nb cb : Nat) (La Lb : List Int) (w : World) (hA : Row w A (intsV La)) (hB : Row w B (intsV Lb)) (hna : na = La.length) (hnb : nb = Lb.length) (hn : na ≤ 9223372036854775807) (hn2 : nb ≤ 9223372036854775807) (r : Bool) (hr : r = true ↔ La = Lb) :
    Calls Tryd.prog 50 #[.slice A na ca, .slice B nb cb] w fun e w' => e = .returned (.bool r) ∧ Below w.heap.size w w' := by
  suffices hs : Calls Tryd.prog 50 #[.slice A na ca, .slice B nb cb] w fun e w' => e = .returned (.bool r) ∧ ∃ m, w' = w.drewN m by
    refine hs.mono ?_
    rintro e w' ⟨he, m, rfl⟩
    exact ⟨he, below_drewN (Below.refl _ _) m⟩
  have HR := Lib.hid hr
  have HA := Lib.hid hA
  have HB := Lib.hid hB
  have HNA := Lib.hid hna
  have HNB := Lib.hid hnb
  clear hr hA hB hna hnb
  by_cases hne : na = nb
  · subst hne
    go_enter Tryd.func50, Tryd.ntmps50
    go_wp2_with fail
    go_loopw [5] (fun i wr => ∃ k : Nat, k ≤ na ∧ i = .int .i64 k ∧ Hid (La.take k = Lb.take k) ∧ Hid (∃ m, wr = w.drewN m)) (fun i _ => na - (intOf i).toNat)
    case atStart => exact ⟨0, by omega, rfl, Lib.hid (by simp), Lib.hid ⟨0, rfl⟩⟩
    case round =>
      obtain ⟨k, hk, rfl, HE, HM⟩ := hrel
      obtain ⟨m, hm⟩ := HM.out
      by_cases hlt : k < na
      · have hka : k < La.length := by have := HNA.out; omega
        have hkb : k < Lb.length := by have := HNB.out; omega
        obtain ⟨ba, oa, rfl, c0⟩ := Row.cell (k := .i64) HA.out hka
        obtain ⟨bb, ob, rfl, c1⟩ := Row.cell (k := .i64) HB.out hkb
        obtain ⟨x, hx⟩ : ∃ x, x = La[k] := ⟨_, rfl⟩
        obtain ⟨y, hy⟩ : ∃ y, y = Lb[k] := ⟨_, rfl⟩
        rw [← hx] at c0
        rw [← hy] at c1
        have c3 : wr.cell? ⟨ba, oa + k, none⟩ = some (.int .i64 x) := by rw [hm]; simpa using c0
        have c4 : wr.cell? ⟨bb, ob + k, none⟩ = some (.int .i64 y) := by rw [hm]; simpa using c1
        have HX := Lib.hid hx
        have HY := Lib.hid hy
        have HM2 := Lib.hid (fun q => ⟨m + q, by rw [hm, World.drewN_drewN]⟩ : ∀ q, ∃ m, wr.drewN q = w.drewN m)
        have hk0 : (0 : Int) ≤ (k : Int) := by omega
        have hki : (k : Int) < (na : Int) := by omega
        clear hx hy c0 c1 hm HM
        by_cases e : x = y
        · have HE2 := Lib.hid (show La.take (k + 1) = Lb.take (k + 1) by
            rw [take_snoc _ _ hka, take_snoc _ _ hkb, HE.out, ← HX.out, ← HY.out, e])
          subst e
          clear HE HX HY
          go_wp2_with fail
          go_quiet (fail)
          go_wp2_with fail
          go_roundw
          case rel => exact ⟨k + 1, by omega, by go_num, HE2, Lib.hid (HM2.out _)⟩
          case measure => simp [intOf]; omega
        · obtain rfl : r = false := by
            rw [Bool.eq_false_iff]
            intro h
            refine e ?_
            have h2 := HR.out.1 h
            rw [HX.out, HY.out]; simp only [h2]
          have hd : (x != y) = true := by rw [bne_iff_ne]; exact e
          clear HE HR HX HY
          go_wp2_with fail
          go_quiet (fail)
          go_wp2_with fail
          go_ret
          exact ⟨rfl, HM2.out _⟩
      · obtain rfl : k = na := by omega
        obtain rfl : r = true := by
          refine HR.out.2 ?_
          have h := HE.out
          rw [List.take_of_length_le (by have := HNA.out; omega), List.take_of_length_le (by have := HNB.out; omega)] at h
          exact h
        have hlt2 : ¬ ((k : Int) < (k : Int)) := by omega
        clear HR HE
        have HMM := Lib.hid hm
        clear hm HM
        go_wp2_with fail
        go_ret
        exact ⟨rfl, m, HMM.out⟩
  · obtain rfl : r = false := by
      rw [Bool.eq_false_iff]
      intro h
      have h2 := HR.out.1 h
      refine hne ?_
      rw [HNA.out, HNB.out, h2]
    have hd : ((na : Int) != (nb : Int)) = true := by simp; omega
    clear HR
    go_enter Tryd.func50, Tryd.ntmps50
    go_wp2_with fail
    go_ret
    exact ⟨rfl, 0, rfl⟩
theorem SameJ.of {a b : EZ} (h : a.tick = b.tick ∧ a.now = b.now ∧ a.ev.t = b.ev.t ∧ a.ev.D = b.ev.D ∧ a.ev.X = b.ev.X) : SameJ a b := ⟨h.1, h.2.1, h.2.2.1, h.2.2.2.1, h.2.2.2.2⟩
set_option maxRecDepth 100000 in
set_option maxHeartbeats 8000000 in
theorem one_any (a b : EZ) (w : World) (ha : EvG w a.ev) (hb : EvG w b.ev) (pa : a.ev.p ≤ 9223372036854775807) (pb : b.ev.p ≤ 9223372036854775807) (xa : a.ev.x ≤ 9223372036854775807) (xb : b.ev.x ≤ 9223372036854775807) (r : Bool) (hr : r = true ↔ SameJ a b) :
    Calls Tryd.prog 21 #[a.arg, b.arg] w fun e w' => e = .returned (.bool r) ∧ Below w.heap.size w w' := by
  obtain ⟨tk, nw, ⟨E, p, q, F, x, y, t, D, X⟩⟩ := a
  obtain ⟨tk2, nw2, ⟨E2, p2, q2, F2, x2, y2, t2, D2, X2⟩⟩ := b
  obtain ⟨r1, h1⟩ := bool_of (D = D2)
  obtain ⟨r2, h2⟩ := bool_of (X = X2)
  obtain ⟨W1, hW1⟩ : ∃ W1, W1 = (w.alloc (.cells #[.bool tk, .int .i64 nw, .int .i64 t, .slice E p q, .slice F x y] 46)).alloc (.cells #[.bool tk2, .int .i64 nw2, .int .i64 t2, .slice E2 p2 q2, .slice F2 x2 y2] 46) := ⟨_, rfl⟩
  have hb1 : Below w.heap.size w W1 := by rw [hW1]; exact bpush (bpush (Below.refl _ _) _) _
  have HT := Lib.hid (texts_any E E2 p q p2 q2 D D2 W1 (ha.rd.keep (Nat.le_refl _) hb1) (hb.rd.keep (Nat.le_refl _) hb1) ha.nd hb.nd pa pb r1 h1)
  have HCF := Lib.hid (fun W (h : Below W1.heap.size W1 W) => show (W.cell? ⟨w.heap.size, 0, none⟩ = some (.bool tk) ∧ W.cell? ⟨w.heap.size, 1, none⟩ = some (.int .i64 nw) ∧ W.cell? ⟨w.heap.size, 2, none⟩ = some (.int .i64 t) ∧ W.cell? ⟨w.heap.size, 3, none⟩ = some (.slice E p q) ∧ W.cell? ⟨w.heap.size, 4, none⟩ = some (.slice F x y)) ∧
      (W.cell? ⟨w.heap.size + 1, 0, none⟩ = some (.bool tk2) ∧ W.cell? ⟨w.heap.size + 1, 1, none⟩ = some (.int .i64 nw2) ∧ W.cell? ⟨w.heap.size + 1, 2, none⟩ = some (.int .i64 t2) ∧ W.cell? ⟨w.heap.size + 1, 3, none⟩ = some (.slice E2 p2 q2) ∧ W.cell? ⟨w.heap.size + 1, 4, none⟩ = some (.slice F2 x2 y2)) from by
    rw [hW1] at h
    refine ⟨⟨?_, ?_, ?_, ?_, ?_⟩, ?_, ?_, ?_, ?_, ?_⟩ <;> refine cell_on h ?_
    · exact cell_on (bpush (Below.refl _ _) _) (cell_made rfl rfl)
    · exact cell_on (bpush (Below.refl _ _) _) (cell_made rfl rfl)
    · exact cell_on (bpush (Below.refl _ _) _) (cell_made rfl rfl)
    · exact cell_on (bpush (Below.refl _ _) _) (cell_made rfl rfl)
    · exact cell_on (bpush (Below.refl _ _) _) (cell_made rfl rfl)
    · exact cell_made (by simp) rfl
    · exact cell_made (by simp) rfl
    · exact cell_made (by simp) rfl
    · exact cell_made (by simp) rfl
    · exact cell_made (by simp) rfl)
  have HI := Lib.hid (fun W (h : Below W1.heap.size W1 W) => ints_any F F2 x y x2 y2 X X2 W ((ha.rx.keep (Nat.le_refl _) hb1).keep (Nat.le_refl _) h) ((hb.rx.keep (Nat.le_refl _) hb1).keep (Nat.le_refl _) h) ha.nx hb.nx xa xb r2 h2)
  have HB1 := Lib.hid hb1
  have HW1 := Lib.hid hW1
  have HR := Lib.hid (show r = true ↔ (r1 = true ∧ r2 = true ∧ tk = tk2 ∧ nw = nw2 ∧ t = t2) from hr.trans ⟨fun h => ⟨h1.2 h.D, h2.2 h.X, h.tick, h.now, h.t⟩, fun h => ⟨h.2.2.1, h.2.2.2.1, h.2.2.2.2, h1.1 h.1, h2.1 h.2.1⟩⟩)
  obtain ⟨⟨c0, c1, c2, c3, c4⟩, d0, d1, d2, d3, d4⟩ := HCF.out W1 (Below.refl _ _)
  clear ha hb pa pb xa xb hr h1 h2 hb1 hW1
  go_enter Tryd.func21, Tryd.ntmps21
  go_upto_region 1 with fail
  rw [← HW1.out]
  go_upto_region 2 with (go_at_call 49; refine HT.out.mono ?_; rintro e w2 ⟨rfl, hb2⟩; have HB2 := Lib.hid hb2; clear hb2)
  clear c0 c1 c2 c3 c4 d0 d1 d2 d3 d4
  obtain ⟨⟨c0, c1, c2, c3, c4⟩, d0, d1, d2, d3, d4⟩ := HCF.out w2 HB2.out
  have HI2 := Lib.hid (HI.out w2 HB2.out)
  go_upto_region 3 with (go_at_call 50; refine HI2.out.mono ?_; rintro e w3 ⟨rfl, hb3⟩; have HB3 := Lib.hid (bthen HB2.out hb3); clear hb3)
  clear c0 c1 c2 c3 c4 d0 d1 d2 d3 d4
  obtain ⟨⟨c0, c1, c2, c3, c4⟩, d0, d1, d2, d3, d4⟩ := HCF.out w3 HB3.out
  have fin : ∀ r', (r' = true ↔ (r1 = true ∧ r2 = true ∧ tk = tk2 ∧ nw = nw2 ∧ t = t2)) → r = r' := fun r' h => by
    have h9 := HR.out.trans h.symm
    cases r <;> cases r' <;> simp_all
  have FIN := Lib.hid fin
  clear fin HR
  cases r1 with
  | false =>
    have e9 := FIN.out false (by simp)
    subst e9
    go_wp2_with fail
    go_ret
    exact ⟨rfl, bthen HB1.out HB3.out⟩
  | true =>
    cases r2 with
    | false =>
      have e9 := FIN.out false (by simp)
      subst e9
      go_wp2_with fail
      go_ret
      exact ⟨rfl, bthen HB1.out HB3.out⟩
    | true =>
      by_cases ht : tk = tk2
      case neg =>
        have e9 := FIN.out false (by simp [ht])
        subst e9
        have b0 : (tk == tk2) = false := by rw [beq_eq_false_iff_ne]; exact ht
        clear ht
        go_wp2_with fail
        go_ret
        exact ⟨rfl, bthen HB1.out HB3.out⟩
      case pos =>
      have b0 : (tk == tk2) = true := by rw [beq_iff_eq]; exact ht
      by_cases hn : nw = nw2
      case neg =>
        have e9 := FIN.out false (by simp [hn])
        subst e9
        have b1 : (nw == nw2) = false := by rw [beq_eq_false_iff_ne]; exact hn
        clear hn ht
        go_wp2_with fail
        go_ret
        exact ⟨rfl, bthen HB1.out HB3.out⟩
      case pos =>
      have b1 : (nw == nw2) = true := by rw [beq_iff_eq]; exact hn
      by_cases h3 : t = t2
      case neg =>
        have e9 := FIN.out false (by simp [h3])
        subst e9
        have b2 : (t == t2) = false := by rw [beq_eq_false_iff_ne]; exact h3
        clear hn ht h3
        go_wp2_with fail
        go_ret
        exact ⟨rfl, bthen HB1.out HB3.out⟩
      case pos =>
        have b2 : (t == t2) = true := by rw [beq_iff_eq]; exact h3
        have e9 := FIN.out true (by simp [ht, hn, h3])
        subst e9
        clear hn ht h3
        go_wp2_with fail
        go_ret
        exact ⟨rfl, bthen HB1.out HB3.out⟩
end Go.Proofs.YthogafecplhckaaDoor
