/- Whether a token is right, on both sides. -/
import Derived.Test.YtcpbjcemlkohkaaDoorCC
namespace Go.Proofs.YtcpbjcemlkohkaaDoor
open Go.RowKit
set_option linter.unusedSimpArgs false
set_option linter.unusedVariables false
def rightT (t : Tok) : Prop := lexT (bsOf (textL [t])) = some [t]
set_option maxRecDepth 100000 in
set_option maxHeartbeats 16000000 in
theorem right_any (t0 t2 : Int) (t1 : ByteArray) (w : World) (hE : Er w) (hs : t1.size ≤ 1000) (r : Bool) (hr : r = true ↔ rightT (t0, t1, t2)) :
    Calls Tryd.prog 12 #[.agg #[.int .i64 t0, .string t1, .int .i64 t2]] w fun e w' => e = .returned (.bool r) ∧ Below w.heap.size w w' := by
  have HE := Lib.hid hE
  have HR := Lib.hid hr
  obtain ⟨W1, hW1⟩ : ∃ W1, W1 = (w.alloc (.cells #[.int .i64 t0, .string t1, .int .i64 t2] 31)).alloc (.cells #[.int .i64 t0, .string t1, .int .i64 t2] 31) := ⟨_, rfl⟩
  have HB1 := Lib.hid (show Below w.heap.size w W1 by rw [hW1]; exact bpush (bpush (Below.refl _ _) _) _)
  have HROW := Lib.hid (show Row W1 (some ⟨w.heap.size + 1, 0, none⟩) (cellsT [(t0, t1, t2)]) by
    rw [hW1]
    refine .inr ⟨_, _, rfl, fun j u hu => ?_⟩
    match j, hu with
    | 0, hu => simp [cellsT] at hu; subst hu; exact cell_made (by simp) rfl
    | 1, hu => simp [cellsT] at hu; subst hu; exact cell_made (by simp) rfl
    | 2, hu => simp [cellsT] at hu; subst hu; exact cell_made (by simp) rfl
    | j + 3, hu => simp [cellsT] at hu)
  have g0 : W1.cell? ⟨w.heap.size, 0, none⟩ = some (.int .i64 t0) := by rw [hW1]; exact cell_on (bpush (Below.refl _ _) _) (cell_made rfl rfl)
  have g1 : W1.cell? ⟨w.heap.size, 1, none⟩ = some (.string t1) := by rw [hW1]; exact cell_on (bpush (Below.refl _ _) _) (cell_made rfl rfl)
  have g2 : W1.cell? ⟨w.heap.size, 2, none⟩ = some (.int .i64 t2) := by rw [hW1]; exact cell_on (bpush (Below.refl _ _) _) (cell_made rfl rfl)
  have HW1 := Lib.hid hW1
  have HSM := Lib.hid (show smallT [(t0, t1, t2)] from fun t ht => by rw [List.mem_singleton.1 ht]; exact hs)
  have HTL := Lib.hid (show (bsOf (textL [(t0, t1, t2)])).size ≤ 9223372036854775807 by
    have h := textL_len _ HSM.out 1 (Nat.le_refl _)
    rw [size_bs]; exact Nat.le_trans h (by decide))
  clear hr hW1 hs hE
  go_enter Tryd.func12, Tryd.ntmps12
  go_wp2_with fail
  rw [← HW1.out]
  refine (text_laws (some ⟨w.heap.size + 1, 0, none⟩) 1 1 [(t0, t1, t2)] _ HROW.out rfl (by omega) HSM.out).mono ?_
  rintro e w2 ⟨rfl, hb⟩
  have HB2 := Lib.hid (bthen HB1.out hb)
  have g0 := cell_on hb g0
  have g1 := cell_on hb g1
  have g2 := cell_on hb g2
  clear hb
  go_wp2_with fail
  refine (tokens_any _ _ (HE.out.keep HB2.out) HTL.out).mono ?_
  rintro e w3 ⟨h, hb⟩
  have HB3 := Lib.hid (bthen HB2.out hb)
  have g0 := cell_on hb g0
  have g1 := cell_on hb g1
  have g2 := cell_on hb g2
  clear hb
  rcases h with ⟨L, A, c, hL, hl4, rfl, hrow, hc, hcm, hn⟩ | ⟨hL, rfl⟩
  case inr =>
    obtain rfl : r = false := by
      cases r; rfl
      have := HR.out.1 rfl
      unfold rightT at this; rw [hL] at this; cases this
    clear hL
    go_wp2_with fail
    go_quiet (fail)
    go_wp2_with fail
    go_ret
    exact ⟨rfl, below_drewN HB3.out _⟩
  case inl =>
  obtain ⟨l, hl⟩ : ∃ l, L.length = l := ⟨_, rfl⟩
  rw [hl]
  have HL := Lib.hid hL
  have HLL := Lib.hid hl
  have HROW3 := Lib.hid hrow
  have hl9 : l ≤ 400 := by omega
  clear hL hrow hl hn
  by_cases h1 : l = 1
  case neg =>
    obtain rfl : r = false := by
      cases r; rfl
      have h := HR.out.1 rfl
      unfold rightT at h; rw [HL.out] at h
      have h2 := congrArg List.length (Option.some.inj h)
      rw [HLL.out] at h2; exact absurd h2 h1
    have q1 : ((l : Int) == 1) = false := by rw [beq_eq_false_iff_ne]; omega
    clear h1
    go_wp2_with fail
    go_quiet (fail)
    go_wp2_with fail
    go_ret
    exact ⟨rfl, below_drewN HB3.out _⟩
  case pos =>
  subst h1
  obtain ⟨⟨s0, s1, s2⟩, hs⟩ : ∃ t, L = [t] := by
    match L, HLL.out with
    | [t], _ => exact ⟨t, rfl⟩
  obtain ⟨b, o, rfl, y0, y1, y2⟩ := HROW3.out.at3 (k := 0) (by rw [HLL.out]; omega)
  subst hs
  rw [Nat.zero_mul, Nat.add_zero] at y0 y1 y2
  have y0 : w3.cell? ⟨b, o, none⟩ = some (.int .i64 s0) := y0
  have y1 : w3.cell? ⟨b, o + 1, none⟩ = some (.string s1) := y1
  have y2 : w3.cell? ⟨b, o + 2, none⟩ = some (.int .i64 s2) := y2
  have HRR := Lib.hid (show r = true ↔ (s0, s1, s2) = (t0, t1, t2) by
    rw [HR.out]; unfold rightT; rw [HL.out]
    constructor
    · intro h; exact List.head_eq_of_cons_eq (Option.some.inj h)
    · intro h; rw [h])
  by_cases h0 : s0 = t0
  · subst h0
    by_cases h1 : s1 = t1
    · subst h1
      by_cases h2 : s2 = t2
      · subst h2
        obtain rfl : r = true := HRR.out.2 rfl
        go_wp2_with fail
        go_quiet (fail)
        go_wp2_with fail
        go_ret
        exact ⟨rfl, below_drewN HB3.out _⟩
      · have z1 : (s2 == t2) = false := beq_eq_false_iff_ne.2 h2
        obtain rfl : r = false := by
          cases r; rfl
          exact absurd (congrArg (fun t => t.2.2) (HRR.out.1 rfl)) h2
        clear h2
        go_wp2_with fail
        go_quiet (fail)
        go_wp2_with fail
        go_ret
        exact ⟨rfl, below_drewN HB3.out _⟩
    · have z1 : (s1.toList == t1.toList) = false := str_ne h1
      obtain rfl : r = false := by
        cases r; rfl
        exact absurd (congrArg (fun t => t.2.1) (HRR.out.1 rfl)) h1
      clear h1
      go_wp2_with fail
      go_quiet (fail)
      go_wp2_with fail
      go_ret
      exact ⟨rfl, below_drewN HB3.out _⟩
  · have z1 : (s0 == t0) = false := beq_eq_false_iff_ne.2 h0
    obtain rfl : r = false := by
      cases r; rfl
      exact absurd (congrArg (fun t => t.1) (HRR.out.1 rfl)) h0
    clear h0
    go_wp2_with fail
    go_quiet (fail)
    go_wp2_with fail
    go_ret
    exact ⟨rfl, below_drewN HB3.out _⟩
set_option maxRecDepth 100000 in
set_option maxHeartbeats 16000000 in
theorem refright_any (t0 t2 : Int) (t1 : ByteArray) (w : World) (hs : t1.size ≤ 1000) (r : Bool) (hr : r = true ↔ rightT (t0, t1, t2)) :
    Calls Tryd.prog 11 #[.agg #[.int .i64 t0, .string t1, .int .i64 t2]] w fun e w' => e = .returned (.bool r) ∧ Below w.heap.size w w' := by
  skip
  have HR := Lib.hid hr
  obtain ⟨W1, hW1⟩ : ∃ W1, W1 = (w.alloc (.cells #[.int .i64 t0, .string t1, .int .i64 t2] 31)).alloc (.cells #[.int .i64 t0, .string t1, .int .i64 t2] 31) := ⟨_, rfl⟩
  have HB1 := Lib.hid (show Below w.heap.size w W1 by rw [hW1]; exact bpush (bpush (Below.refl _ _) _) _)
  have HROW := Lib.hid (show Row W1 (some ⟨w.heap.size + 1, 0, none⟩) (cellsT [(t0, t1, t2)]) by
    rw [hW1]
    refine .inr ⟨_, _, rfl, fun j u hu => ?_⟩
    match j, hu with
    | 0, hu => simp [cellsT] at hu; subst hu; exact cell_made (by simp) rfl
    | 1, hu => simp [cellsT] at hu; subst hu; exact cell_made (by simp) rfl
    | 2, hu => simp [cellsT] at hu; subst hu; exact cell_made (by simp) rfl
    | j + 3, hu => simp [cellsT] at hu)
  have g0 : W1.cell? ⟨w.heap.size, 0, none⟩ = some (.int .i64 t0) := by rw [hW1]; exact cell_on (bpush (Below.refl _ _) _) (cell_made rfl rfl)
  have g1 : W1.cell? ⟨w.heap.size, 1, none⟩ = some (.string t1) := by rw [hW1]; exact cell_on (bpush (Below.refl _ _) _) (cell_made rfl rfl)
  have g2 : W1.cell? ⟨w.heap.size, 2, none⟩ = some (.int .i64 t2) := by rw [hW1]; exact cell_on (bpush (Below.refl _ _) _) (cell_made rfl rfl)
  have HW1 := Lib.hid hW1
  have HSM := Lib.hid (show smallT [(t0, t1, t2)] from fun t ht => by rw [List.mem_singleton.1 ht]; exact hs)
  have HTL := Lib.hid (show (bsOf (textL [(t0, t1, t2)])).size ≤ 9223372036854775807 by
    have h := textL_len _ HSM.out 1 (Nat.le_refl _)
    rw [size_bs]; exact Nat.le_trans h (by decide))
  clear hr hW1 hs 
  go_enter Tryd.func11, Tryd.ntmps11
  go_wp2_with fail
  rw [← HW1.out]
  refine (reftext_any (some ⟨w.heap.size + 1, 0, none⟩) 1 1 [(t0, t1, t2)] _ HROW.out rfl (by omega) HSM.out).mono ?_
  rintro e w2 ⟨rfl, hb⟩
  have HB2 := Lib.hid (bthen HB1.out hb)
  have g0 := cell_on hb g0
  have g1 := cell_on hb g1
  have g2 := cell_on hb g2
  clear hb
  go_wp2_with fail
  refine (reftokens_any _ _ HTL.out).mono ?_
  rintro e w3 ⟨h, hb⟩
  have HB3 := Lib.hid (bthen HB2.out hb)
  have g0 := cell_on hb g0
  have g1 := cell_on hb g1
  have g2 := cell_on hb g2
  clear hb
  rcases h with ⟨L, A, c, hL, hl4, rfl, hrow, hc, hcm, hn⟩ | ⟨hL, rfl⟩
  case inr =>
    obtain rfl : r = false := by
      cases r; rfl
      have := HR.out.1 rfl
      unfold rightT at this; rw [hL] at this; cases this
    clear hL
    go_wp2_with fail
    go_quiet (fail)
    go_wp2_with fail
    go_ret
    exact ⟨rfl, below_drewN HB3.out _⟩
  case inl =>
  obtain ⟨l, hl⟩ : ∃ l, L.length = l := ⟨_, rfl⟩
  rw [hl]
  have HL := Lib.hid hL
  have HLL := Lib.hid hl
  have HROW3 := Lib.hid hrow
  have hl9 : l ≤ 400 := by omega
  clear hL hrow hl hn
  by_cases h1 : l = 1
  case neg =>
    obtain rfl : r = false := by
      cases r; rfl
      have h := HR.out.1 rfl
      unfold rightT at h; rw [HL.out] at h
      have h2 := congrArg List.length (Option.some.inj h)
      rw [HLL.out] at h2; exact absurd h2 h1
    have q1 : ((l : Int) == 1) = false := by rw [beq_eq_false_iff_ne]; omega
    clear h1
    go_wp2_with fail
    go_quiet (fail)
    go_wp2_with fail
    go_ret
    exact ⟨rfl, below_drewN HB3.out _⟩
  case pos =>
  subst h1
  obtain ⟨⟨s0, s1, s2⟩, hs⟩ : ∃ t, L = [t] := by
    match L, HLL.out with
    | [t], _ => exact ⟨t, rfl⟩
  obtain ⟨b, o, rfl, y0, y1, y2⟩ := HROW3.out.at3 (k := 0) (by rw [HLL.out]; omega)
  subst hs
  rw [Nat.zero_mul, Nat.add_zero] at y0 y1 y2
  have y0 : w3.cell? ⟨b, o, none⟩ = some (.int .i64 s0) := y0
  have y1 : w3.cell? ⟨b, o + 1, none⟩ = some (.string s1) := y1
  have y2 : w3.cell? ⟨b, o + 2, none⟩ = some (.int .i64 s2) := y2
  have HRR := Lib.hid (show r = true ↔ (s0, s1, s2) = (t0, t1, t2) by
    rw [HR.out]; unfold rightT; rw [HL.out]
    constructor
    · intro h; exact List.head_eq_of_cons_eq (Option.some.inj h)
    · intro h; rw [h])
  by_cases h0 : s0 = t0
  · subst h0
    by_cases h1 : s1 = t1
    · subst h1
      by_cases h2 : s2 = t2
      · subst h2
        obtain rfl : r = true := HRR.out.2 rfl
        go_wp2_with fail
        go_quiet (fail)
        go_wp2_with fail
        go_ret
        exact ⟨rfl, below_drewN HB3.out _⟩
      · have z1 : (s2 == t2) = false := beq_eq_false_iff_ne.2 h2
        obtain rfl : r = false := by
          cases r; rfl
          exact absurd (congrArg (fun t => t.2.2) (HRR.out.1 rfl)) h2
        clear h2
        go_wp2_with fail
        go_quiet (fail)
        go_wp2_with fail
        go_ret
        exact ⟨rfl, below_drewN HB3.out _⟩
    · have z1 : (s1.toList == t1.toList) = false := str_ne h1
      obtain rfl : r = false := by
        cases r; rfl
        exact absurd (congrArg (fun t => t.2.1) (HRR.out.1 rfl)) h1
      clear h1
      go_wp2_with fail
      go_quiet (fail)
      go_wp2_with fail
      go_ret
      exact ⟨rfl, below_drewN HB3.out _⟩
  · have z1 : (s0 == t0) = false := beq_eq_false_iff_ne.2 h0
    obtain rfl : r = false := by
      cases r; rfl
      exact absurd (congrArg (fun t => t.1) (HRR.out.1 rfl)) h0
    clear h0
    go_wp2_with fail
    go_quiet (fail)
    go_wp2_with fail
    go_ret
    exact ⟨rfl, below_drewN HB3.out _⟩
end Go.Proofs.YtcpbjcemlkohkaaDoor
