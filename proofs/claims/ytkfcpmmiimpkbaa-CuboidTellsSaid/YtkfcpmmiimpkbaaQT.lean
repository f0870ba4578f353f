/- Is a row right (the document's). -/
import Derived.Test.YtkfcpmmiimpkbaaQS
namespace Go.Proofs.Ytkfcpmmiimpkbaa
open Go.RowKit
set_option linter.unusedSimpArgs false
set_option linter.unusedVariables false
set_option maxRecDepth 100000 in
set_option maxHeartbeats 8000000 in
theorem refrowright_any (u j : Int) (E F B H : Option Addr) (p q pc qc m d hn' hc' : Nat) (M : List ByteArray) (Y : List Ag) (w : World) (hB : Row w B (texts M)) (hH : Row w H (cellsG Y)) (hm : m = M.length) (hhn : hn' = Y.length) (hm2 : m ≤ 9223372036854775807) (hh2 : hn' ≤ 9223372036854775807) (hL : ∀ s ∈ M, s.size ≤ 9223372036854775807) (r : Bool) (hr : r = true ↔ rowOk p q u j M Y) :
    Calls Try.prog 20 #[.agg #[.slice E p pc, .slice F q qc], .agg #[.int .i64 u, .slice B m d, .int .i64 j, .slice H hn' hc']] w fun e w' => e = .returned (.bool r) ∧ Below w.heap.size w w' := by
  obtain ⟨W1, hW1⟩ : ∃ W1, W1 = (w.alloc (.cells #[.slice E p pc, .slice F q qc] 24)).alloc (.cells #[.int .i64 u, .slice B m d, .int .i64 j, .slice H hn' hc'] 45) := ⟨_, rfl⟩
  have hb1 : Below w.heap.size w W1 := by rw [hW1]; exact bpush (bpush (Below.refl _ _) _) _
  have HB1 := Lib.hid hb1
  have HB := Lib.hid (hB.keep (Nat.le_refl _) hb1)
  have HH := Lib.hid (hH.keep (Nat.le_refl _) hb1)
  have c0 : W1.cell? ⟨w.heap.size + 1, 0, none⟩ = some (.int .i64 u) := by rw [hW1]; exact cell_made (by simp) rfl
  have c1 : W1.cell? ⟨w.heap.size + 1, 1, none⟩ = some (.slice B m d) := by rw [hW1]; exact cell_made (by simp) rfl
  have c2 : W1.cell? ⟨w.heap.size + 1, 2, none⟩ = some (.int .i64 j) := by rw [hW1]; exact cell_made (by simp) rfl
  have c3 : W1.cell? ⟨w.heap.size + 1, 3, none⟩ = some (.slice H hn' hc') := by rw [hW1]; exact cell_made (by simp) rfl
  have HW1 := Lib.hid hW1
  have HM := Lib.hid hm
  have HHN := Lib.hid hhn
  have HR := Lib.hid hr
  have HL := Lib.hid hL
  clear hB hH hm hhn hr hW1 hb1 hL c0 c1 c2 c3
  by_cases h1 : m = p
  case neg =>
    have HNO := Lib.hid (show ¬ M.length = p by rw [← HM.out]; exact h1)
    have z1 : ((m : Int) == (p : Int)) = false := by rw [beq_eq_false_iff_ne]; omega
    have z2 : ((m : Int) != (p : Int)) = true := by rw [bne, z1]; rfl
    clear h1
    obtain rfl : r = false := by
      cases r; rfl
      exact absurd ((fun k : rowOk p q u j M Y => k.1) (HR.out.1 rfl)) HNO.out
    go_enter Try.func20, Try.ntmps20
    go_wp2_with fail
    all_goals first
      | exact ⟨rfl, by rw [← HW1.out]; exact HB1.out⟩
      | (go_ret; exact ⟨rfl, by rw [← HW1.out]; exact HB1.out⟩)
  case pos =>
  have H1 := Lib.hid h1
  have z1 : ((m : Int) != (p : Int)) = false := by rw [bne, show ((m : Int) == (p : Int)) = true by rw [beq_iff_eq]; omega]; rfl
  clear h1
  by_cases h2 : hn' = q
  case neg =>
    have HNO := Lib.hid (show ¬ Y.length = q by rw [← HHN.out]; exact h2)
    have z3 : ((hn' : Int) == (q : Int)) = false := by rw [beq_eq_false_iff_ne]; omega
    have z2 : ((hn' : Int) != (q : Int)) = true := by rw [bne, z3]; rfl
    clear h2
    obtain rfl : r = false := by
      cases r; rfl
      exact absurd ((fun k : rowOk p q u j M Y => k.2.1) (HR.out.1 rfl)) HNO.out
    go_enter Try.func20, Try.ntmps20
    go_wp2_with fail
    all_goals first
      | exact ⟨rfl, by rw [← HW1.out]; exact HB1.out⟩
      | (go_ret; exact ⟨rfl, by rw [← HW1.out]; exact HB1.out⟩)
  case pos =>
  have H2 := Lib.hid h2
  have z3 : ((hn' : Int) != (q : Int)) = false := by rw [bne, show ((hn' : Int) == (q : Int)) = true by rw [beq_iff_eq]; omega]; rfl
  clear h2
  have c0 : W1.cell? ⟨w.heap.size + 1, 0, none⟩ = some (.int .i64 u) := by rw [HW1.out]; exact cell_made (by simp) rfl
  have c1 : W1.cell? ⟨w.heap.size + 1, 1, none⟩ = some (.slice B m d) := by rw [HW1.out]; exact cell_made (by simp) rfl
  have c2 : W1.cell? ⟨w.heap.size + 1, 2, none⟩ = some (.int .i64 j) := by rw [HW1.out]; exact cell_made (by simp) rfl
  have c3 : W1.cell? ⟨w.heap.size + 1, 3, none⟩ = some (.slice H hn' hc') := by rw [HW1.out]; exact cell_made (by simp) rfl
  go_enter Try.func20, Try.ntmps20
  go_wp2_with fail
  rw [← HW1.out]
  clear HW1
  go_loopw [5, 6] (fun i o wr => ∃ k : Nat, i = .int .i64 (k : Int) ∧ k ≤ m ∧ Hid (∀ x (h : x < M.length), x < k → valP M[x]) ∧ Hid (Below W1.heap.size W1 wr)) (fun i _ _ => m - (intOf i).toNat)
  case atStart => exact ⟨0, rfl, by omega, Lib.hid (fun x _ h => absurd h (by omega)), Lib.hid (Below.refl _ _)⟩
  case round =>
    obtain ⟨k, rfl, hk, HE, HBW⟩ := hrel
    have q1 := cell_on HBW.out c1
    by_cases hlt : k < m
    case pos =>
      have hki : (k : Int) < (m : Int) := by omega
      have hk0 : (0 : Int) ≤ (k : Int) := by omega
      have hkM : k < M.length := by have := HM.out; omega
      obtain ⟨b2, o2, hBe, y0⟩ := text_cell (HB.out.keep (Nat.le_refl _) HBW.out) hkM
      obtain ⟨s, hs⟩ : ∃ s, s = M[k] := ⟨_, rfl⟩
      rw [← hs] at y0
      have HS := Lib.hid hs
      subst hBe
      obtain ⟨v, hv⟩ : ∃ v : Bool, v = true ↔ valP s := by
        by_cases h : valP s
        · exact ⟨true, by simp [h]⟩
        · exact ⟨false, by simp [h]⟩
      have HV := Lib.hid hv
      clear hs hv hlt
      have HZ := Lib.hid (show s.size ≤ 9223372036854775807 by rw [HS.out]; exact HL.out _ (List.getElem_mem _))
      go_wp2_with fail
      go_at_call 41
      refine (refvalue_any s _ HZ.out v HV.out).mono ?_
      intro e w7 h
      obtain ⟨he, hw7⟩ := h
      subst he hw7
      cases v with
      | true =>
        have HE2 := Lib.hid (show ∀ x (h : x < M.length), x < k + 1 → valP M[x] from fun x h hx => by
          by_cases e : x = k
          · subst e; rw [← HS.out]; exact HV.out.1 rfl
          · exact HE.out x h (by omega))
        go_wp2_with fail
        go_roundw
        case rel => exact ⟨k + 1, by go_num, by omega, HE2, HBW⟩
        case measure => simp [intOf]; omega
      | false =>
        have HNE := Lib.hid (show r = false by
          cases r; rfl
          have h := (HR.out.1 rfl).2.2.2.2.2.2.1 M[k] (List.getElem_mem _)
          rw [← HS.out] at h
          exact absurd (HV.out.2 h) (by simp))
        go_wp2_with fail
        go_ret
        exact ⟨by rw [HNE.out]; rfl, bthen HB1.out HBW.out⟩
    case neg =>
      have hki : ¬ (k : Int) < (m : Int) := by omega
      have HALL := Lib.hid (show ∀ s ∈ M, valP s from fun s hs => by
        obtain ⟨x, hx, rfl⟩ := List.mem_iff_getElem.1 hs
        exact HE.out x hx (by have := HM.out; omega))
      clear hlt
      go_wp2_with fail
      go_loopw [7, 8] (fun i o wt => ∃ k : Nat, i = .int .i64 (k : Int) ∧ k ≤ hn' ∧ Hid (∀ x (h : x < Y.length), x < k → okA Y[x]) ∧ Hid (Below W1.heap.size W1 wt)) (fun i _ _ => hn' - (intOf i).toNat)
      case atStart => exact ⟨0, rfl, by omega, Lib.hid (fun x _ h => absurd h (by omega)), HBW⟩
      case round =>
        obtain ⟨g, rfl, hg, HEG, HBG⟩ := hrel
        have q3 := cell_on HBG.out c3
        by_cases hlt : g < hn'
        case pos =>
          have hki : (g : Int) < (hn' : Int) := by omega
          have hk0 : (0 : Int) ≤ (g : Int) := by omega
          have hkM : g < Y.length := by have := HHN.out; omega
          obtain ⟨b2, o2, hHe, y0, y1, y2⟩ := (HH.out.keep (Nat.le_refl _) HBG.out).at3 hkM
          obtain ⟨⟨t0, t1, t2⟩, hs⟩ : ∃ s, s = Y[g] := ⟨_, rfl⟩
          rw [← hs] at y0 y1 y2
          have HS := Lib.hid hs
          subst hHe
          obtain ⟨v, hv⟩ : ∃ v : Bool, v = rightB t0 t1 t2 := ⟨_, rfl⟩
          have HV := Lib.hid hv
          clear hs hv hlt
          go_wp2_with fail
          go_at_call 42
          refine (rright_any t0 t1 t2 _).mono ?_
          rw [← HV.out]
          intro e w7 h
          obtain ⟨he, hw7⟩ := h
          subst he
          have HBB := Lib.hid (HBG.out.trans (hw7.mono HBG.out.size))
          clear hw7
          cases v with
          | true =>
            have HE2 := Lib.hid (show ∀ x (h : x < Y.length), x < g + 1 → okA Y[x] from fun x h hx => by
              by_cases e : x = g
              · subst e; rw [← HS.out]; exact HV.out.symm
              · exact HEG.out x h (by omega))
            go_wp2_with fail
            go_roundw
            case rel => exact ⟨g + 1, by go_num, by omega, HE2, HBB⟩
            case measure => simp [intOf]; omega
          | false =>
            have HNE := Lib.hid (show r = false by
              cases r; rfl
              have h := (HR.out.1 rfl).2.2.2.2.2.2.2 Y[g] (List.getElem_mem _)
              rw [← HS.out] at h
              exact absurd (HV.out.trans h) (by simp))
            go_wp2_with fail
            go_ret
            exact ⟨by rw [HNE.out]; rfl, bthen HB1.out HBB.out⟩
        case neg =>
          have hki : ¬ (g : Int) < (hn' : Int) := by omega
          have HALG := Lib.hid (show ∀ s ∈ Y, okA s from fun s hs => by
            obtain ⟨x, hx, rfl⟩ := List.mem_iff_getElem.1 hs
            exact HEG.out x hx (by have := HHN.out; omega))
          have q0 := cell_on HBG.out c0
          have q2 := cell_on HBG.out c2
          clear hlt
          have HRR := Lib.hid (show r = true ↔ 0 ≤ u ∧ u ≤ 1099511627776 ∧ 1 ≤ j ∧ j ≤ 1048576 from
            ⟨fun k => ⟨(HR.out.1 k).2.2.1, (HR.out.1 k).2.2.2.1, (HR.out.1 k).2.2.2.2.1, (HR.out.1 k).2.2.2.2.2.1⟩,
             fun k => HR.out.2 ⟨by rw [← HM.out]; exact H1.out, by rw [← HHN.out]; exact H2.out, k.1, k.2.1, k.2.2.1, k.2.2.2, HALL.out, HALG.out⟩⟩)
          by_cases h : 0 ≤ u ∧ u ≤ 1099511627776 ∧ 1 ≤ j ∧ j ≤ 1048576
          case pos =>
            obtain rfl : r = true := HRR.out.2 h
            obtain ⟨h3, h4, h5, h6⟩ := h
            go_wp2_with fail
            go_ret
            exact ⟨rfl, bthen HB1.out HBG.out⟩
          case neg =>
            obtain rfl : r = false := by
              cases r; rfl
              exact absurd (HRR.out.1 rfl) h
            by_cases h3 : 0 ≤ u
            case neg => (go_wp2_with fail; go_ret; exact ⟨rfl, bthen HB1.out HBG.out⟩)
            by_cases h4 : u ≤ 1099511627776
            case neg => (go_wp2_with fail; go_ret; exact ⟨rfl, bthen HB1.out HBG.out⟩)
            by_cases h5 : 1 ≤ j
            case neg => (go_wp2_with fail; go_ret; exact ⟨rfl, bthen HB1.out HBG.out⟩)
            have h6 : ¬ j ≤ 1048576 := fun k => h ⟨h3, h4, h5, k⟩
            clear h
            go_wp2_with fail
            go_ret
            exact ⟨rfl, bthen HB1.out HBG.out⟩
end Go.Proofs.Ytkfcpmmiimpkbaa
