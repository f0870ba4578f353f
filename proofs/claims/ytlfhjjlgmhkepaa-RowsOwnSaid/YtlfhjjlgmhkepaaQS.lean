/- Is a row right (the code's). -/
import Derived.Test.YtlfhjjlgmhkepaaQR
namespace Go.Proofs.Ytlfhjjlgmhkepaa
open Go.RowKit
set_option linter.unusedSimpArgs false
set_option linter.unusedVariables false
/-- A right row of a schema of so many dimensions and metrics. -/
def rowOk (p q : Nat) (u j : Int) (M : List ByteArray) (Y : List Ag) : Prop := M.length = p ∧ Y.length = q ∧ 0 ≤ u ∧ u ≤ 1099511627776 ∧ 1 ≤ j ∧ j ≤ 1048576 ∧ (∀ s ∈ M, valP s) ∧ (∀ a ∈ Y, okA a)
set_option maxRecDepth 100000 in
set_option maxHeartbeats 8000000 in
theorem rowright_any (u j : Int) (E F B H : Option Addr) (p q pc qc m d hn' hc' : Nat) (M : List ByteArray) (Y : List Ag) (w : World) (hB : Row w B (texts M)) (hH : Row w H (cellsG Y)) (hm : m = M.length) (hhn : hn' = Y.length) (hm2 : m ≤ 9223372036854775807) (hh2 : hn' ≤ 9223372036854775807) (hL : ∀ s ∈ M, s.size ≤ 9223372036854775807) (r : Bool) (hr : r = true ↔ rowOk p q u j M Y) :
    Calls Try.prog 13 #[.agg #[.slice E p pc, .slice F q qc], .agg #[.int .i64 u, .slice B m d, .int .i64 j, .slice H hn' hc']] w fun e w' => e = .returned (.bool r) ∧ Below w.heap.size w w' := by
  obtain ⟨W1, hW1⟩ : ∃ W1, W1 = (w.alloc (.cells #[.slice E p pc, .slice F q qc] 24)).alloc (.cells #[.int .i64 u, .slice B m d, .int .i64 j, .slice H hn' hc'] 27) := ⟨_, rfl⟩
  have hb1 : Below w.heap.size w W1 := by rw [hW1]; exact bpush (bpush (Below.refl _ _) _) _
  have HB1 := Lib.hid hb1
  have HB := Lib.hid (hB.keep (Nat.le_refl _) hb1)
  have HH := Lib.hid (hH.keep (Nat.le_refl _) hb1)
  have c0 : W1.cell? ⟨w.heap.size + 1, 0, none⟩ = some (.int .i64 u) := by rw [hW1]; exact cell_made (by simp) rfl
  have c1 : W1.cell? ⟨w.heap.size + 1, 1, none⟩ = some (.slice B m d) := by rw [hW1]; exact cell_made (by simp) rfl
  have c2 : W1.cell? ⟨w.heap.size + 1, 2, none⟩ = some (.int .i64 j) := by rw [hW1]; exact cell_made (by simp) rfl
  have c3 : W1.cell? ⟨w.heap.size + 1, 3, none⟩ = some (.slice H hn' hc') := by rw [hW1]; exact cell_made (by simp) rfl
  have HW1 := Lib.hid hW1
  have HM := Lib.hid hm
  have HHN := Lib.hid hhn
  have HR := Lib.hid hr
  have HL := Lib.hid hL
  clear hB hH hm hhn hr hW1 hb1 hL c0 c1 c2 c3
  by_cases h1 : m = p
  case neg =>
    have HNO := Lib.hid (show ¬ M.length = p by rw [← HM.out]; exact h1)
    have z1 : ((m : Int) == (p : Int)) = false := by rw [beq_eq_false_iff_ne]; omega
    have z2 : ((m : Int) != (p : Int)) = true := by rw [bne, z1]; rfl
    clear h1
    obtain rfl : r = false := by
      cases r; rfl
      exact absurd ((fun k : rowOk p q u j M Y => k.1) (HR.out.1 rfl)) HNO.out
    go_enter Try.func13, Try.ntmps13
    go_wp2_with fail
    all_goals first
      | exact ⟨rfl, by rw [← HW1.out]; exact HB1.out⟩
      | (go_ret; exact ⟨rfl, by rw [← HW1.out]; exact HB1.out⟩)
  case pos =>
  have H1 := Lib.hid h1
  have z1 : ((m : Int) != (p : Int)) = false := by rw [bne, show ((m : Int) == (p : Int)) = true by rw [beq_iff_eq]; omega]; rfl
  clear h1
  by_cases h2 : hn' = q
  case neg =>
    have HNO := Lib.hid (show ¬ Y.length = q by rw [← HHN.out]; exact h2)
    have z3 : ((hn' : Int) == (q : Int)) = false := by rw [beq_eq_false_iff_ne]; omega
    have z2 : ((hn' : Int) != (q : Int)) = true := by rw [bne, z3]; rfl
    clear h2
    obtain rfl : r = false := by
      cases r; rfl
      exact absurd ((fun k : rowOk p q u j M Y => k.2.1) (HR.out.1 rfl)) HNO.out
    go_enter Try.func13, Try.ntmps13
    go_wp2_with fail
    all_goals first
      | exact ⟨rfl, by rw [← HW1.out]; exact HB1.out⟩
      | (go_ret; exact ⟨rfl, by rw [← HW1.out]; exact HB1.out⟩)
  case pos =>
  have H2 := Lib.hid h2
  have z3 : ((hn' : Int) != (q : Int)) = false := by rw [bne, show ((hn' : Int) == (q : Int)) = true by rw [beq_iff_eq]; omega]; rfl
  clear h2
  by_cases h3 : 0 ≤ u
  case neg =>
    have HNO := Lib.hid h3
    obtain rfl : r = false := by
      cases r; rfl
      exact absurd ((fun k : rowOk p q u j M Y => k.2.2.1) (HR.out.1 rfl)) HNO.out
    go_enter Try.func13, Try.ntmps13
    go_wp2_with fail
    all_goals first
      | exact ⟨rfl, by rw [← HW1.out]; exact HB1.out⟩
      | (go_ret; exact ⟨rfl, by rw [← HW1.out]; exact HB1.out⟩)
  case pos =>
  by_cases h4 : u ≤ 1099511627776
  case neg =>
    have HNO := Lib.hid h4
    obtain rfl : r = false := by
      cases r; rfl
      exact absurd ((fun k : rowOk p q u j M Y => k.2.2.2.1) (HR.out.1 rfl)) HNO.out
    go_enter Try.func13, Try.ntmps13
    go_wp2_with fail
    all_goals first
      | exact ⟨rfl, by rw [← HW1.out]; exact HB1.out⟩
      | (go_ret; exact ⟨rfl, by rw [← HW1.out]; exact HB1.out⟩)
  case pos =>
  by_cases h5 : 1 ≤ j
  case neg =>
    have HNO := Lib.hid h5
    obtain rfl : r = false := by
      cases r; rfl
      exact absurd ((fun k : rowOk p q u j M Y => k.2.2.2.2.1) (HR.out.1 rfl)) HNO.out
    go_enter Try.func13, Try.ntmps13
    go_wp2_with fail
    all_goals first
      | exact ⟨rfl, by rw [← HW1.out]; exact HB1.out⟩
      | (go_ret; exact ⟨rfl, by rw [← HW1.out]; exact HB1.out⟩)
  case pos =>
  by_cases h6 : j ≤ 1048576
  case neg =>
    have HNO := Lib.hid h6
    obtain rfl : r = false := by
      cases r; rfl
      exact absurd ((fun k : rowOk p q u j M Y => k.2.2.2.2.2.1) (HR.out.1 rfl)) HNO.out
    go_enter Try.func13, Try.ntmps13
    go_wp2_with fail
    all_goals first
      | exact ⟨rfl, by rw [← HW1.out]; exact HB1.out⟩
      | (go_ret; exact ⟨rfl, by rw [← HW1.out]; exact HB1.out⟩)
  case pos =>
  obtain ⟨a, ha⟩ : ∃ a : Bool, a = true ↔ ∃ s ∈ M, ¬ valP s := by
    by_cases h : ∃ s ∈ M, ¬ valP s
    · exact ⟨true, by simp only [true_iff]; exact h⟩
    · exact ⟨false, by simp only [Bool.false_eq_true, false_iff]; exact h⟩
  obtain ⟨b, hb⟩ : ∃ b : Bool, b = true ↔ ∃ s ∈ Y, ¬ okA s := by
    by_cases h : ∃ s ∈ Y, ¬ okA s
    · exact ⟨true, by simp only [true_iff]; exact h⟩
    · exact ⟨false, by simp only [Bool.false_eq_true, false_iff]; exact h⟩
  have HAA := Lib.hid ha
  have HBV := Lib.hid hb
  have HRR := Lib.hid (show r = (!a && !b) by
    have e : rowOk p q u j M Y ↔ (∀ s ∈ M, valP s) ∧ (∀ a ∈ Y, okA a) :=
      ⟨fun k => ⟨k.2.2.2.2.2.2.1, k.2.2.2.2.2.2.2⟩, fun k => ⟨by rw [← HM.out]; exact H1.out, by rw [← HHN.out]; exact H2.out, h3, h4, h5, h6, k.1, k.2⟩⟩
    have ea : a = false ↔ ∀ s ∈ M, valP s := by
      constructor
      · rintro rfl s hs
        by_cases k : valP s
        · exact k
        · cases ha.2 ⟨s, hs, k⟩
      · intro k; cases a with
        | false => rfl
        | true => obtain ⟨s, hs, hk⟩ := ha.1 rfl; exact absurd (k s hs) hk
    have eb : b = false ↔ ∀ s ∈ Y, okA s := by
      constructor
      · rintro rfl s hs
        by_cases k : okA s
        · exact k
        · cases hb.2 ⟨s, hs, k⟩
      · intro k; cases b with
        | false => rfl
        | true => obtain ⟨s, hs, hk⟩ := hb.1 rfl; exact absurd (k s hs) hk
    have hr := HR.out
    rw [e, ← ea, ← eb] at hr
    cases a <;> cases b <;> cases r <;> simp_all)
  clear ha hb
  have HC := Lib.hid (hasnoR_any B m d M W1 HB.out HM.out hm2 HL.out a HAA.out)
  have c3 : W1.cell? ⟨w.heap.size + 1, 3, none⟩ = some (.slice H hn' hc') := by rw [HW1.out]; exact cell_made (by simp) rfl
  go_enter Try.func13, Try.ntmps13
  go_wp2_with fail
  rw [← HW1.out]
  clear HW1
  go_at_call 38
  refine HC.out.mono ?_
  clear HC
  intro e w7 h
  obtain ⟨he, hb7⟩ := h
  subst he
  have c3 := cell_on hb7 c3
  have HD := Lib.hid (hasagg_any H hn' hc' Y w7 (HH.out.keep (Nat.le_refl _) hb7) HHN.out hh2 b HBV.out)
  have HBB := Lib.hid (bthen HB1.out hb7)
  clear hb7
  cases a with
  | true =>
    go_wp2_with fail
    go_ret
    exact ⟨by rw [HRR.out]; rfl, HBB.out⟩
  | false =>
    go_wp2_with fail
    go_at_call 39
    refine HD.out.mono ?_
    clear HD
    intro e w8 h
    obtain ⟨he, hb8⟩ := h
    subst he
    have HBB := Lib.hid (bthen HBB.out hb8)
    clear hb8
    cases b with
    | true =>
      go_wp2_with fail
      go_ret
      exact ⟨by rw [HRR.out]; rfl, HBB.out⟩
    | false =>
      go_wp2_with fail
      go_ret
      exact ⟨by rw [HRR.out]; rfl, HBB.out⟩
end Go.Proofs.Ytlfhjjlgmhkepaa
