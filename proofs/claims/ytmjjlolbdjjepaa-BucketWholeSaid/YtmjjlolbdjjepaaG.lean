/- The live question; the law BucketTells. -/
import Derived.Test.YtmjjlolbdjjepaaF
namespace Go.Proofs.Ytmjjlolbdjjepaa
open Go.RowKit
set_option linter.unusedSimpArgs false
set_option linter.unusedVariables false
theorem rcut_bad (f t g : Int) (w : World) (h : ¬ (okGran g ∧ okTime f ∧ okTime t)) :
    Calls Try.prog 20 #[.int .i64 f, .int .i64 t, .int .i64 g] w fun e w' => e = .returned (.tuple #[.slice none 0 0, .int .i64 111]) ∧ Below w.heap.size w w' := by
  by_cases hf : okGran g ∧ okTime f
  · have HF := Lib.hid hf
    have HT := Lib.hid (fun ht => h ⟨hf.1, hf.2, ht.2⟩ : ¬ (okGran g ∧ okTime t))
    clear h hf
    go_enter Try.func20, Try.ntmps20
    go_wp2_with fail
    refine (fits_yes f g _ HF.out.1 HF.out.2).mono ?_
    rintro e w1 ⟨rfl, rfl⟩
    go_wp2_with fail
    refine (fits_no t g _ HT.out).mono ?_
    rintro e w1 ⟨rfl, rfl⟩
    go_wp2
    go_ret2
    exact ⟨rfl, Below.refl _ _⟩
  · have HF := Lib.hid hf
    clear h hf
    by_cases ht : okGran g ∧ okTime t
    · have HT := Lib.hid ht
      clear ht
      go_enter Try.func20, Try.ntmps20
      go_wp2_with fail
      refine (fits_no f g _ HF.out).mono ?_
      rintro e w1 ⟨rfl, rfl⟩
      go_wp2_with fail
      refine (fits_yes t g _ HT.out.1 HT.out.2).mono ?_
      rintro e w1 ⟨rfl, rfl⟩
      go_wp2
      go_ret2
      exact ⟨rfl, Below.refl _ _⟩
    · have HT := Lib.hid ht
      clear ht
      go_enter Try.func20, Try.ntmps20
      go_wp2_with fail
      refine (fits_no f g _ HF.out).mono ?_
      rintro e w1 ⟨rfl, rfl⟩
      go_wp2_with fail
      refine (fits_no t g _ HT.out).mono ?_
      rintro e w1 ⟨rfl, rfl⟩
      go_wp2
      go_ret2
      exact ⟨rfl, Below.refl _ _⟩
theorem al_k {k : Nat} (h : EndsAt 5 11 3 k) : k = 3 := by
  obtain ⟨h1, h2, h3⟩ := h
  have p3 : pos 5 11 3 3 = 11 := by decide +kernel
  have p2 : pos 5 11 3 2 = 10 := by decide +kernel
  have p1 : pos 5 11 3 1 = 5 := by decide +kernel
  have p0 : pos 5 11 3 0 = 3 := by decide +kernel
  have hk : k ≤ 3 := by
    rcases Nat.lt_or_ge 3 k with h | h
    · have := h3 3 h; omega
    · exact h
  rcases h2 with h2 | h2
  · omega
  · match k, hk with
    | 0, _ => omega
    | 1, _ => omega
    | 2, _ => omega
    | 3, _ => rfl
theorem al_run : runC 5 11 3 3 = [.int .i64 3, .int .i64 5, .int .i64 5, .int .i64 10, .int .i64 10, .int .i64 11] := by
  have p3 : pos 5 11 3 3 = 11 := by decide +kernel
  have p2 : pos 5 11 3 2 = 10 := by decide +kernel
  have p1 : pos 5 11 3 1 = 5 := by decide +kernel
  have p0 : pos 5 11 3 0 = 3 := by decide +kernel
  simp [runC, List.range_succ, p0, p1, p2, p3]
theorem al_flr : flr (-7) 5 = -10 := by decide
theorem al_clg : clg (-7) 5 = -5 := by decide
set_option maxRecDepth 100000 in
set_option maxHeartbeats 1000000 in
theorem alive_any (w : World) : Calls Try.prog 12 #[] w fun e w' => e = .returned (.bool true) ∧ Below w.heap.size w w' := by
  go_enter Try.func12, Try.ntmps12
  go_wp2_with fail
  refine (Floor_good (-7) 5 _ ⟨by decide, by decide⟩).mono ?_
  rintro e w1 ⟨rfl, rfl⟩
  rw [al_flr]
  go_wp2_with fail
  refine (Ceil_good (-7) 5 _ ⟨by decide, by decide⟩).mono ?_
  rintro e w1 ⟨rfl, rfl⟩
  rw [al_clg]
  go_wp2_with fail
  refine (cut_good 3 11 5 _ (by decide) (by decide) (by decide)).mono ?_
  rintro e w1 ⟨k, hk, v, rfl, hown, hnil, hB⟩
  obtain rfl := al_k hk
  obtain ⟨A, c, rfl, hc, hrow⟩ := own_row2 hown hnil
  have HR := Lib.hid hrow
  have HB := Lib.hid hB
  clear hk hown hnil hrow hB hc
  go_wp2_with fail
  have hr2 : Row (w1.alloc (.cells #[.int .i64 3, .int .i64 5, .int .i64 5, .int .i64 10, .int .i64 10, .int .i64 11] 34)) (some ⟨w1.heap.size, 0, none⟩) (runC 5 11 3 3) := Row.made rfl (by rw [al_run])
  refine (same_yes _ _ 3 _ 3 _ (posP 5 11 3) _ (HR.out.keep (Nat.le_refl _) (bpush (Below.refl _ _) _)) hr2 rfl (by omega)).mono ?_
  rintro e w2 ⟨rfl, hB2⟩
  have HB2 := Lib.hid (bthen (bpush HB.out (.cells #[.int .i64 3, .int .i64 5, .int .i64 5, .int .i64 10, .int .i64 10, .int .i64 11] 34)) hB2)
  clear hr2 hB2
  go_wp2_with fail
  refine (co_any 10 5 _).mono ?_
  rintro e w3 ⟨rfl, rfl⟩
  rw [show coB 10 5 = true by decide]
  go_wp2
  go_ret
  exact ⟨rfl, HB2.out⟩
theorem floor_both (t g : Int) : ∃ A E, ∀ w, (Calls Try.prog 8 #[.int .i64 t, .int .i64 g] w fun e w' => e = .returned (.tuple #[.int .i64 A, .int .i64 E]) ∧ w = w') ∧ (Calls Try.prog 9 #[.int .i64 t, .int .i64 g] w fun e w' => e = .returned (.tuple #[.int .i64 A, .int .i64 E]) ∧ w = w') := by
  by_cases h : okGran g ∧ okTime t
  · exact ⟨_, _, fun w => ⟨Floor_good t g w h, rFloor_good t g w h⟩⟩
  · exact ⟨_, _, fun w => ⟨Floor_bad t g w h, rFloor_bad t g w h⟩⟩
theorem ceil_both (t g : Int) : ∃ A E, ∀ w, (Calls Try.prog 10 #[.int .i64 t, .int .i64 g] w fun e w' => e = .returned (.tuple #[.int .i64 A, .int .i64 E]) ∧ w = w') ∧ (Calls Try.prog 11 #[.int .i64 t, .int .i64 g] w fun e w' => e = .returned (.tuple #[.int .i64 A, .int .i64 E]) ∧ w = w') := by
  by_cases h : okGran g ∧ okTime t
  · exact ⟨_, _, fun w => ⟨Ceil_good t g w h, rCeil_good t g w h⟩⟩
  · exact ⟨_, _, fun w => ⟨Ceil_bad t g w h, rCeil_bad t g w h⟩⟩
set_option maxRecDepth 100000 in
set_option maxHeartbeats 2000000 in
theorem tells_any (t g h : Int) (w : World) : Calls Try.prog 3 #[.int .i64 t, .int .i64 g, .int .i64 h] w fun e w' => e = .returned (.bool true) ∧ Below w.heap.size w w' := by
  obtain ⟨A, E, hF⟩ := floor_both t g
  obtain ⟨C, G, hC⟩ := ceil_both t g
  obtain ⟨B1, hB1⟩ : ∃ B, B = alB t g := ⟨_, rfl⟩
  obtain ⟨B2, hB2⟩ : ∃ B, B = coB g h := ⟨_, rfl⟩
  obtain ⟨B3, hB3⟩ : ∃ B, B = decide (okGran g) := ⟨_, rfl⟩
  have HF := Lib.hid hF
  have HC := Lib.hid hC
  have H1 := Lib.hid hB1
  have H2 := Lib.hid hB2
  have H3 := Lib.hid hB3
  clear hF hC hB1 hB2 hB3
  go_enter Try.func3, Try.ntmps3
  go_wp2_with fail
  refine (HF.out _).1.mono ?_
  rintro e w1 ⟨rfl, rfl⟩
  go_wp2_with fail
  refine (HF.out _).2.mono ?_
  rintro e w1 ⟨rfl, rfl⟩
  go_wp2_with fail
  refine (HC.out _).1.mono ?_
  rintro e w1 ⟨rfl, rfl⟩
  go_wp2_with fail
  refine (HC.out _).2.mono ?_
  rintro e w1 ⟨rfl, rfl⟩
  go_wp2_with fail
  refine (alive_any _).mono ?_
  rintro e w2 ⟨rfl, hB⟩
  have HB := Lib.hid hB
  clear hB
  go_wp2_with fail
  refine (al_any t g _).mono ?_
  rintro e w1 ⟨rfl, rfl⟩
  rw [← H1.out]
  go_wp2_with fail
  refine (ral_any t g _).mono ?_
  rintro e w1 ⟨rfl, rfl⟩
  rw [← H1.out]
  go_wp2_with fail
  refine (co_any g h _).mono ?_
  rintro e w1 ⟨rfl, rfl⟩
  rw [← H2.out]
  go_wp2_with fail
  refine (rco_any g h _).mono ?_
  rintro e w1 ⟨rfl, rfl⟩
  rw [← H2.out]
  go_wp2_with fail
  refine (right_any g _).mono ?_
  rintro e w1 ⟨rfl, rfl⟩
  rw [← H3.out]
  go_wp2_with fail
  refine (rright_any g _).mono ?_
  rintro e w1 ⟨rfl, rfl⟩
  rw [← H3.out]
  go_wp2
  go_ret
  exact ⟨by simp, HB.out⟩
theorem ends_one {g t f : Int} {k j : Nat} (h : EndsAt g t f k) (h' : EndsAt g t f j) : k = j := by
  obtain ⟨h1, h2, h3⟩ := h
  obtain ⟨i1, i2, i3⟩ := h'
  rcases Nat.lt_trichotomy k j with h | h | h
  · have := i3 k h
    rcases h2 with h2 | h2 <;> omega
  · exact h
  · have := h3 j h
    rcases i2 with i2 | i2 <;> omega
theorem cut_both (f t g : Int) : ∃ a E n, n ≤ 1000 ∧ ∀ w, (Calls Try.prog 19 #[.int .i64 f, .int .i64 t, .int .i64 g] w fun e w' => ∃ A c, e = .returned (.tuple #[.slice A n c, .int .i64 E]) ∧ Row w' A (cellsOf a n) ∧ Below w.heap.size w w') ∧
    (Calls Try.prog 20 #[.int .i64 f, .int .i64 t, .int .i64 g] w fun e w' => ∃ A c, e = .returned (.tuple #[.slice A n c, .int .i64 E]) ∧ Row w' A (cellsOf a n) ∧ Below w.heap.size w w') := by
  by_cases h : okGran g ∧ okTime f ∧ okTime t
  · obtain ⟨h1, h2, h3⟩ := h
    by_cases hex : ∃ k, EndsAt g t f k
    · obtain ⟨k, hk⟩ := hex
      refine ⟨posP g t f, 0, k, hk.1, fun w => ⟨(cut_good f t g w h1 h2 h3).mono ?_, (rcut_good f t g w h1 h2 h3).mono ?_⟩⟩
      all_goals
        rintro e w' ⟨j, hj, v, rfl, hown, hnil, hB⟩
        obtain rfl := ends_one hk hj
        obtain ⟨A, c, rfl, _, hr⟩ := own_row2 hown hnil
        exact ⟨A, c, rfl, hr, hB⟩
    · refine ⟨posP g t f, 0, 0, by omega, fun w => ⟨(cut_good f t g w h1 h2 h3).mono ?_, (rcut_good f t g w h1 h2 h3).mono ?_⟩⟩
      all_goals
        rintro e w' ⟨j, hj, _⟩
        exact absurd ⟨j, hj⟩ hex
  · refine ⟨fun _ => (0, 0), 111, 0, by omega, fun w => ⟨(cut_bad f t g w h).mono ?_, (rcut_bad f t g w h).mono ?_⟩⟩
    all_goals
      rintro e w' ⟨rfl, hB⟩
      exact ⟨none, 0, rfl, .inl rfl, hB⟩
set_option maxRecDepth 100000 in
set_option maxHeartbeats 2000000 in
theorem cuts_any (f t g : Int) (w : World) : Calls Try.prog 4 #[.int .i64 f, .int .i64 t, .int .i64 g] w fun e w' => e = .returned (.bool true) ∧ Below w.heap.size w w' := by
  obtain ⟨a, E, n, hn, hC⟩ := cut_both f t g
  have HC := Lib.hid hC
  clear hC
  go_enter Try.func4, Try.ntmps4
  go_wp2_with fail
  refine (HC.out _).1.mono ?_
  rintro e w1 ⟨A, c, rfl, hr, hB⟩
  have HR := Lib.hid hr
  have HB := Lib.hid hB
  clear hr hB
  go_wp2_with fail
  refine (HC.out _).2.mono ?_
  rintro e w2 ⟨A2, c2, rfl, hr2, hB2⟩
  have HR2 := Lib.hid hr2
  have HR1 := Lib.hid (HR.out.keep (Nat.le_refl _) hB2)
  have HB2 := Lib.hid (bthen HB.out hB2)
  clear hr2 hB2 HB HR
  go_wp2_with fail
  refine (alive_any _).mono ?_
  rintro e w3 ⟨rfl, hB3⟩
  have HR3 := Lib.hid (HR1.out.keep (Nat.le_refl _) hB3)
  have HR4 := Lib.hid (HR2.out.keep (Nat.le_refl _) hB3)
  have HB3 := Lib.hid (bthen HB2.out hB3)
  clear hB3 HB2 HR1 HR2
  go_wp2_with fail
  refine (same_yes A A2 n c n c2 a _ HR3.out HR4.out rfl (by omega)).mono ?_
  rintro e w4 ⟨rfl, hB4⟩
  have HB4 := Lib.hid (bthen HB3.out hB4)
  clear hB4 HB3
  go_wp2
  go_ret
  exact ⟨by simp, HB4.out⟩
end Go.Proofs.Ytmjjlolbdjjepaa
