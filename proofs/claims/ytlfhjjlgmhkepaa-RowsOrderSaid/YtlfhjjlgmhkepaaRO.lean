/- RowsOrder. -/
import Derived.Test.YtlfhjjlgmhkepaaRN
namespace Go.Proofs.Ytlfhjjlgmhkepaa
open Go.RowKit
set_option linter.unusedSimpArgs false
set_option linter.unusedVariables false
theorem joinA_err (a b : A3) : (joinA a b).2 ≠ 131 := by
  unfold joinA
  by_cases h1 : a.right = true ∧ b.right = true
  · rw [if_pos h1]
    by_cases h2 : fit1 (a.s + b.s) = true
    · rw [if_pos h2]; exact (show (0 : Int) ≠ 131 by decide)
    · rw [if_neg h2]; exact (show (121 : Int) ≠ 131 by decide)
  · rw [if_neg h1]; exact (show (1 : Int) ≠ 131 by decide)
theorem joinG_err : ∀ L M : List Ag, (joinG L M).2 ≠ 131 := by
  intro L
  induction L with
  | nil => intro M; cases M <;> (rw [joinG]; decide; simp)
  | cons a L ih =>
    intro M
    cases M with
    | nil => rw [joinG]; decide; simp
    | cons b M =>
      rw [joinG]
      by_cases e1 : (joinA (toA3 a) (toA3 b)).2 = 0
      · rw [if_pos e1]
        by_cases e2 : (joinG L M).2 = 0
        · rw [if_pos e2]; exact (show (0 : Int) ≠ 131 by decide)
        · rw [if_neg e2]; exact ih M
      · rw [if_neg e1]; exact joinA_err _ _
theorem joinR_err {a b : RV} (h : a.aggs.length = b.aggs.length) : (joinR a b).2 = 131 ↔ cmpV a b ≠ 0 := by
  unfold joinR
  by_cases h1 : cmpV a b = 0
  · rw [if_pos ⟨h1, h⟩]
    constructor
    · intro k
      by_cases h2 : 1048576 < a.count + b.count
      · rw [if_pos h2] at k; exact absurd k (show ¬ ((121 : Int) = 131) by decide)
      · rw [if_neg h2] at k
        by_cases h3 : (joinG a.aggs b.aggs).2 = 0
        · rw [if_pos h3] at k; exact absurd k (show ¬ ((0 : Int) = 131) by decide)
        · rw [if_neg h3] at k; exact absurd k (joinG_err _ _)
    · intro k; exact absurd h1 k
  · rw [if_neg (fun k => h1 k.1)]; simp [h1]
/-- The three answers of an order. -/
def ordered (a b c : Int) : Prop := ¬ (a = 0 ∧ b ≠ c ∨ b = 0 ∧ a ≠ c ∨ a = b ∧ a ≠ 0 ∧ c ≠ a)
instance (a b c : Int) : Decidable (ordered a b c) := by unfold ordered; infer_instance
theorem ordered_cmp (x y z : RV) : ordered (cmpV x y) (cmpV y z) (cmpV x z) := by
  unfold ordered
  rintro (⟨h1, h2⟩ | ⟨h1, h2⟩ | ⟨h1, h2, h3⟩)
  · exact h2 (cmpV_left h1 z).symm
  · exact h2 (cmpV_right h1 x)
  · rcases cmpV_three x y with e | e | e
    · have h4 := cmpV_tr (a := x) (b := y) (c := z) (by omega) (by omega)
      rcases cmpV_three x z with g | g | g <;> omega
    · exact h2 e
    · have n1 := cmpV_neg x y
      have n2 := cmpV_neg y z
      have n3 := cmpV_neg x z
      have h4 := cmpV_tr (a := z) (b := y) (c := x) (by omega) (by omega)
      rcases cmpV_three x z with g | g | g <;> omega
set_option maxRecDepth 100000 in
set_option maxHeartbeats 32000000 in
theorem order_walk (A B : Option Addr) (n c m d : Nat) (L M : List ByteArray) (t0 u0 : Int) (D0 G0 : Option Addr) (n0 c0 gn0 gc0 : Nat) (L0 : List ByteArray) (X0 : List Ag) (t1 u1 : Int) (D1 G1 : Option Addr) (n1 c1 gn1 gc1 : Nat) (L1 : List ByteArray) (X1 : List Ag) (t2 u2 : Int) (D2 G2 : Option Addr) (n2 c2 gn2 gc2 : Nat) (L2 : List ByteArray) (X2 : List Ag) (w : World) (hA : Row w A (texts L)) (hB : Row w B (texts M)) (hn : n = L.length) (hm : m = M.length) (hnc : n ≤ c) (hmd : m ≤ d) (ha : A = none → c = 0) (hb : B = none → d = 0)
    (hL : ∀ s ∈ L, s.size ≤ 9223372036854775807) (hM : ∀ s ∈ M, s.size ≤ 9223372036854775807) (hn2 : n ≤ 9223372036854775807) (hm2 : m ≤ 9223372036854775807) (h0 : Good0 w (⟨D0, n0, c0, G0, gn0, gc0⟩, ⟨t0, L0, u0, X0⟩)) (z0 : ∀ s ∈ L0, s.size ≤ 9223372036854775807) (h1 : Good0 w (⟨D1, n1, c1, G1, gn1, gc1⟩, ⟨t1, L1, u1, X1⟩)) (z1 : ∀ s ∈ L1, s.size ≤ 9223372036854775807) (h2 : Good0 w (⟨D2, n2, c2, G2, gn2, gc2⟩, ⟨t2, L2, u2, X2⟩)) (z2 : ∀ s ∈ L2, s.size ≤ 9223372036854775807) :
    Calls Try.prog 7 #[.agg #[.slice A n c, .slice B m d], .agg #[.int .i64 t0, .slice D0 n0 c0, .int .i64 u0, .slice G0 gn0 gc0, .int .i64 t1, .slice D1 n1 c1, .int .i64 u1, .slice G1 gn1 gc1, .int .i64 t2, .slice D2 n2 c2, .int .i64 u2, .slice G2 gn2 gc2]] w fun e w' => e = .returned (.bool true) ∧ Below w.heap.size w w' := by
  obtain ⟨W1, hW1⟩ : ∃ W1, W1 = (w.alloc (.cells #[.slice A n c, .slice B m d] 24)).alloc (.cells #[.int .i64 t0, .slice D0 n0 c0, .int .i64 u0, .slice G0 gn0 gc0, .int .i64 t1, .slice D1 n1 c1, .int .i64 u1, .slice G1 gn1 gc1, .int .i64 t2, .slice D2 n2 c2, .int .i64 u2, .slice G2 gn2 gc2] 52) := ⟨_, rfl⟩
  have hb1 : Below w.heap.size w W1 := by rw [hW1]; exact bpush (bpush (Below.refl _ _) _) _
  have HB1 := Lib.hid hb1
  have s0 : W1.cell? ⟨w.heap.size, 0, none⟩ = some (.slice A n c) := by rw [hW1]; exact cell_on (bpush (Below.refl _ _) _) (cell_made rfl rfl)
  have s1 : W1.cell? ⟨w.heap.size, 1, none⟩ = some (.slice B m d) := by rw [hW1]; exact cell_on (bpush (Below.refl _ _) _) (cell_made rfl rfl)
  have B0 := Lib.hid (show W1.cell? ⟨w.heap.size + 1, 0, none⟩ = some (.int .i64 t0) by rw [hW1]; exact cell_made (by simp) rfl)
  have B1 := Lib.hid (show W1.cell? ⟨w.heap.size + 1, 1, none⟩ = some (.slice D0 n0 c0) by rw [hW1]; exact cell_made (by simp) rfl)
  have B2 := Lib.hid (show W1.cell? ⟨w.heap.size + 1, 2, none⟩ = some (.int .i64 u0) by rw [hW1]; exact cell_made (by simp) rfl)
  have B3 := Lib.hid (show W1.cell? ⟨w.heap.size + 1, 3, none⟩ = some (.slice G0 gn0 gc0) by rw [hW1]; exact cell_made (by simp) rfl)
  have B4 := Lib.hid (show W1.cell? ⟨w.heap.size + 1, 4, none⟩ = some (.int .i64 t1) by rw [hW1]; exact cell_made (by simp) rfl)
  have B5 := Lib.hid (show W1.cell? ⟨w.heap.size + 1, 5, none⟩ = some (.slice D1 n1 c1) by rw [hW1]; exact cell_made (by simp) rfl)
  have B6 := Lib.hid (show W1.cell? ⟨w.heap.size + 1, 6, none⟩ = some (.int .i64 u1) by rw [hW1]; exact cell_made (by simp) rfl)
  have B7 := Lib.hid (show W1.cell? ⟨w.heap.size + 1, 7, none⟩ = some (.slice G1 gn1 gc1) by rw [hW1]; exact cell_made (by simp) rfl)
  have B8 := Lib.hid (show W1.cell? ⟨w.heap.size + 1, 8, none⟩ = some (.int .i64 t2) by rw [hW1]; exact cell_made (by simp) rfl)
  have B9 := Lib.hid (show W1.cell? ⟨w.heap.size + 1, 9, none⟩ = some (.slice D2 n2 c2) by rw [hW1]; exact cell_made (by simp) rfl)
  have B10 := Lib.hid (show W1.cell? ⟨w.heap.size + 1, 10, none⟩ = some (.int .i64 u2) by rw [hW1]; exact cell_made (by simp) rfl)
  have B11 := Lib.hid (show W1.cell? ⟨w.heap.size + 1, 11, none⟩ = some (.slice G2 gn2 gc2) by rw [hW1]; exact cell_made (by simp) rfl)
  have G0D := Lib.hid (h0.keep hb1)
  have G1D := Lib.hid (h1.keep hb1)
  have G2D := Lib.hid (h2.keep hb1)
  have HRC := Lib.hid (show Row W1 (some ⟨w.heap.size + 1, 0, none⟩) (cellsR [(⟨D0, n0, c0, G0, gn0, gc0⟩, ⟨t0, L0, u0, X0⟩), (⟨D1, n1, c1, G1, gn1, gc1⟩, ⟨t1, L1, u1, X1⟩), (⟨D2, n2, c2, G2, gn2, gc2⟩, ⟨t2, L2, u2, X2⟩)]) by rw [hW1]; exact Row.made (by simp) rfl)
  have HRG := Lib.hid (show ∀ z ∈ [(⟨D0, n0, c0, G0, gn0, gc0⟩, ⟨t0, L0, u0, X0⟩), (⟨D1, n1, c1, G1, gn1, gc1⟩, ⟨t1, L1, u1, X1⟩), (⟨D2, n2, c2, G2, gn2, gc2⟩, ⟨t2, L2, u2, X2⟩)], Good0 W1 z by
    intro z hz
    simp only [List.mem_cons, List.not_mem_nil, or_false] at hz
    rcases hz with rfl | rfl | rfl
    · exact G0D.out
    · exact G1D.out
    · exact G2D.out)
  obtain ⟨r, hr⟩ := bool_of (fitsRows L M [⟨t0, L0, u0, X0⟩, ⟨t1, L1, u1, X1⟩, ⟨t2, L2, u2, X2⟩])
  have HR := Lib.hid hr
  have HFT := Lib.hid (show ∀ W, Below W1.heap.size W1 W → Calls Try.prog 8 #[.agg #[.slice A n c, .slice B m d], .slice (some ⟨w.heap.size + 1, 0, none⟩) 3 3] W fun e w' => e = .returned (.bool r) ∧ Below W.heap.size W w' from fun W hW =>
    fitsrows_any A B (some ⟨w.heap.size + 1, 0, none⟩) n c m d 3 3 L M [(⟨D0, n0, c0, G0, gn0, gc0⟩, ⟨t0, L0, u0, X0⟩), (⟨D1, n1, c1, G1, gn1, gc1⟩, ⟨t1, L1, u1, X1⟩), (⟨D2, n2, c2, G2, gn2, gc2⟩, ⟨t2, L2, u2, X2⟩)] W (hA.keep (Nat.le_refl _) (bthen hb1 hW)) (hB.keep (Nat.le_refl _) (bthen hb1 hW)) (HRC.out.keep (Nat.le_refl _) hW) (fun z hz => (HRG.out z hz).keep hW) hn hm rfl hnc hmd ha hb hL hM hn2 hm2 (by decide) (by
      intro z hz
      simp only [List.mem_cons, List.not_mem_nil, or_false] at hz
      rcases hz with rfl | rfl | rfl
      · exact z0
      · exact z1
      · exact z2) r hr)
  obtain ⟨a, hav⟩ : ∃ a, a = cmpV ⟨t0, L0, u0, X0⟩ ⟨t1, L1, u1, X1⟩ := ⟨_, rfl⟩
  obtain ⟨b, hbv⟩ : ∃ b, b = cmpV ⟨t1, L1, u1, X1⟩ ⟨t2, L2, u2, X2⟩ := ⟨_, rfl⟩
  obtain ⟨g, hcv⟩ : ∃ g, g = cmpV ⟨t0, L0, u0, X0⟩ ⟨t2, L2, u2, X2⟩ := ⟨_, rfl⟩
  have HTR := Lib.hid (ordered_cmp ⟨t0, L0, u0, X0⟩ ⟨t1, L1, u1, X1⟩ ⟨t2, L2, u2, X2⟩)
  have H01 := Lib.hid (show ∀ W, Below W1.heap.size W1 W → Calls Try.prog 21 #[.agg #[.int .i64 t0, .slice D0 n0 c0, .int .i64 u0, .slice G0 gn0 gc0], .agg #[.int .i64 t1, .slice D1 n1 c1, .int .i64 u1, .slice G1 gn1 gc1]] W fun e w' => e = .returned (.int .i64 a) ∧ Below W.heap.size W w' from fun W hW => by
    have h := compare_any t0 t1 u0 u1 D0 D1 G0 G1 n0 c0 n1 c1 gn0 gc0 gn1 gc1 L0 L1 W (G0D.out.rd.keep (Nat.le_refl _) hW) (G1D.out.rd.keep (Nat.le_refl _) hW) G0D.out.nd G1D.out.nd G0D.out.sd G1D.out.sd
    rw [show cmpK t0 t1 L0 L1 = a from hav.symm] at h
    exact h)
  have H12 := Lib.hid (show ∀ W, Below W1.heap.size W1 W → Calls Try.prog 21 #[.agg #[.int .i64 t1, .slice D1 n1 c1, .int .i64 u1, .slice G1 gn1 gc1], .agg #[.int .i64 t2, .slice D2 n2 c2, .int .i64 u2, .slice G2 gn2 gc2]] W fun e w' => e = .returned (.int .i64 b) ∧ Below W.heap.size W w' from fun W hW => by
    have h := compare_any t1 t2 u1 u2 D1 D2 G1 G2 n1 c1 n2 c2 gn1 gc1 gn2 gc2 L1 L2 W (G1D.out.rd.keep (Nat.le_refl _) hW) (G2D.out.rd.keep (Nat.le_refl _) hW) G1D.out.nd G2D.out.nd G1D.out.sd G2D.out.sd
    rw [show cmpK t1 t2 L1 L2 = b from hbv.symm] at h
    exact h)
  have H02 := Lib.hid (show ∀ W, Below W1.heap.size W1 W → Calls Try.prog 21 #[.agg #[.int .i64 t0, .slice D0 n0 c0, .int .i64 u0, .slice G0 gn0 gc0], .agg #[.int .i64 t2, .slice D2 n2 c2, .int .i64 u2, .slice G2 gn2 gc2]] W fun e w' => e = .returned (.int .i64 g) ∧ Below W.heap.size W w' from fun W hW => by
    have h := compare_any t0 t2 u0 u2 D0 D2 G0 G2 n0 c0 n2 c2 gn0 gc0 gn2 gc2 L0 L2 W (G0D.out.rd.keep (Nat.le_refl _) hW) (G2D.out.rd.keep (Nat.le_refl _) hW) G0D.out.nd G2D.out.nd G0D.out.sd G2D.out.sd
    rw [show cmpK t0 t2 L0 L2 = g from hcv.symm] at h
    exact h)
  have H00 := Lib.hid (show ∀ W, Below W1.heap.size W1 W → Calls Try.prog 21 #[.agg #[.int .i64 t0, .slice D0 n0 c0, .int .i64 u0, .slice G0 gn0 gc0], .agg #[.int .i64 t0, .slice D0 n0 c0, .int .i64 u0, .slice G0 gn0 gc0]] W fun e w' => e = .returned (.int .i64 0) ∧ Below W.heap.size W w' from fun W hW => by
    have h := compare_any t0 t0 u0 u0 D0 D0 G0 G0 n0 c0 n0 c0 gn0 gc0 gn0 gc0 L0 L0 W (G0D.out.rd.keep (Nat.le_refl _) hW) (G0D.out.rd.keep (Nat.le_refl _) hW) G0D.out.nd G0D.out.nd G0D.out.sd G0D.out.sd
    rw [show cmpK t0 t0 L0 L0 = 0 from cmpV_self ⟨t0, L0, u0, X0⟩] at h
    exact h)
  have H10G := Lib.hid (show ∀ W, Below W1.heap.size W1 W → Calls Try.prog 21 #[.agg #[.int .i64 t1, .slice D1 n1 c1, .int .i64 u1, .slice G1 gn1 gc1], .agg #[.int .i64 t0, .slice D0 n0 c0, .int .i64 u0, .slice G0 gn0 gc0]] W fun e w' => e = .returned (.int .i64 (-cmpV ⟨t0, L0, u0, X0⟩ ⟨t1, L1, u1, X1⟩)) ∧ Below W.heap.size W w' from fun W hW => by
    have h := compare_any t1 t0 u1 u0 D1 D0 G1 G0 n1 c1 n0 c0 gn1 gc1 gn0 gc0 L1 L0 W (G1D.out.rd.keep (Nat.le_refl _) hW) (G0D.out.rd.keep (Nat.le_refl _) hW) G1D.out.nd G0D.out.nd G1D.out.sd G0D.out.sd
    rw [show cmpK t1 t0 L1 L0 = (-cmpV ⟨t0, L0, u0, X0⟩ ⟨t1, L1, u1, X1⟩) from cmpV_neg ⟨t0, L0, u0, X0⟩ ⟨t1, L1, u1, X1⟩] at h
    exact h)
  have HSG := Lib.hid (show ∀ W, Below W1.heap.size W1 W → ∀ q : Bool, (q = true ↔ (cmpV ⟨t0, L0, u0, X0⟩ ⟨t1, L1, u1, X1⟩ < 0 ∧ cmpV ⟨t1, L1, u1, X1⟩ ⟨t2, L2, u2, X2⟩ < 0)) → Calls Try.prog 25 #[.slice (some ⟨w.heap.size + 1, 0, none⟩) 3 3] W fun e w' => e = .returned (.bool q) ∧ Below W.heap.size W w' from fun W hW q hq =>
    sorted_any (some ⟨w.heap.size + 1, 0, none⟩) 3 3 [⟨t0, L0, u0, X0⟩, ⟨t1, L1, u1, X1⟩, ⟨t2, L2, u2, X2⟩] W (rowsM0 (HRC.out.keep (Nat.le_refl _) hW) (fun z hz => (HRG.out z hz).keep hW)) rfl (by decide) q (by
      rw [hq]
      constructor
      · rintro ⟨x, y⟩ i hi
        match i, hi with
        | 0, _ => exact x
        | 1, _ => exact y
      · intro h; exact ⟨h 0 (by simp), h 1 (by simp)⟩))
  have HAV := Lib.hid hav
  have HBV := Lib.hid hbv
  have HCV := Lib.hid hcv
  have HW1 := Lib.hid hW1
  clear hA hB hn hm hnc hmd ha hb hL hM hn2 hm2 hr hav hbv hcv hW1 hb1 h0 z0 h1 z1 h2 z2
  go_enter Try.func7, Try.ntmps7
  go_wp2_with fail
  rw [← HW1.out]
  clear HW1
  refine wp_region_held_drew (S := fun w' => Below W1.heap.size W1 w') (by kernel_rfl) (below_drewN (Below.refl _ _) 1) ?_
  intro hHeld
  refine take_want (i := 0) (v := ?v0k1) rfl (by kernel_rfl) (by kernel_rfl) (by kernel_rfl) (fun _ _ _ h => h) (by rfl) ?y0k1 (by assumption) ?r0k1
  case y0k1 => (intro w hSw; have q0 := cell_on hSw s0; have q1 := cell_on hSw s1; go_simp; all_goals with_reducible rfl)
  (try simp only [Act.put, List.setIfInBounds_toArray, List.set_cons_zero, List.set_cons_succ])
  refine take_want (i := 1) (v := ?v1k1) rfl (by kernel_rfl) (by kernel_rfl) (by kernel_rfl) (fun _ _ _ h => h) (by rfl) ?y1k1 (by assumption) ?r1k1
  case y1k1 => (intro w hSw; go_simp; all_goals with_reducible rfl)
  (try simp only [Act.put, List.setIfInBounds_toArray, List.set_cons_zero, List.set_cons_succ])
  refine wpAnyH_ready (rs := [2]) (by kernel_rfl) (by simp) ?_
  refine AllReadyH.cons rfl (fun K hK => ?_) AllReadyH.nil
  go_simp
  (go_at_call 8; refine (HFT.out _ hHeld).mono ?_; rintro e w7 ⟨rfl, hb⟩)
  refine hK.out _ _ (bthen hHeld hb) (fun hHeld => ?_)
  clear hK K
  (try simp only [Act.put, List.setIfInBounds_toArray, List.set_cons_zero, List.set_cons_succ])
  refine take_want (i := 3) (v := ?v3k1) rfl (by kernel_rfl) (by kernel_rfl) (by kernel_rfl) (fun _ _ _ h => h) (by rfl) ?y3k1 (by assumption) ?r3k1
  case y3k1 => (intro w hSw; go_simp; all_goals with_reducible rfl)
  (try simp only [Act.put, List.setIfInBounds_toArray, List.set_cons_zero, List.set_cons_succ])
  refine wpAnyH_done (by kernel_rfl) ?_ _
  have HBW := Lib.hid hHeld
  clear hHeld s0 s1 HFT
  cases r with
  | false =>
    go_wp2_with fail
    go_at_call 10
    refine (alive_any _).mono ?_
    rintro e w8 ⟨rfl, hb⟩
    have HBW := Lib.hid (bthen HBW.out hb)
    clear hb
    go_wp2_with fail
    go_ret
    exact ⟨rfl, bthen HB1.out HBW.out⟩
  | true =>
  have HOK := Lib.hid (HR.out.1 rfl).2.2.2.2
  have hl20 := (HR.out.1 rfl).1.1
  have hm20 := (HR.out.1 rfl).2.1.1
  have r0 := HOK.out ⟨t0, L0, u0, X0⟩ (by simp)
  have r1 := HOK.out ⟨t1, L1, u1, X1⟩ (by simp)
  obtain ⟨er, her⟩ : ∃ e, e = (joinR ⟨t0, L0, u0, X0⟩ ⟨t1, L1, u1, X1⟩).2 := ⟨_, rfl⟩
  have HER := Lib.hid (show er = 131 ↔ cmpV ⟨t0, L0, u0, X0⟩ ⟨t1, L1, u1, X1⟩ ≠ 0 by rw [her]; exact joinR_err (by show X0.length = X1.length; rw [r0.2.1, r1.2.1]))
  have HJN := Lib.hid (show ∀ W, Below W1.heap.size W1 W → Calls Try.prog 18 #[.agg #[.int .i64 t0, .slice D0 n0 c0, .int .i64 u0, .slice G0 gn0 gc0], .agg #[.int .i64 t1, .slice D1 n1 c1, .int .i64 u1, .slice G1 gn1 gc1]] W fun e w' => ∃ (t' u' : Int) (D' G' : Option Addr) (n' c' gn' gc' : Nat), e = .returned (.tuple #[.agg #[.int .i64 t', .slice D' n' c', .int .i64 u', .slice G' gn' gc'], .int .i64 er]) ∧ Below W.heap.size W w' from fun W hW => by
    have h := join_any (⟨D0, n0, c0, G0, gn0, gc0⟩, ⟨t0, L0, u0, X0⟩) (⟨D1, n1, c1, G1, gn1, gc1⟩, ⟨t1, L1, u1, X1⟩) W ((G0D.out.keep hW).good (by show L0.length ≤ _; rw [r0.1]; omega) (by show X0.length ≤ _; rw [r0.2.1]; omega)) ((G1D.out.keep hW).good (by show L1.length ≤ _; rw [r1.1]; omega) (by show X1.length ≤ _; rw [r1.2.1]; omega)) ⟨by show 0 ≤ u0; have := r0.2.2.2.2.1; simp only at this; omega, r0.2.2.2.2.2.1⟩ ⟨by show 0 ≤ u1; have := r1.2.2.2.2.1; simp only at this; omega, r1.2.2.2.2.2.1⟩
    rw [encR_eq, encR_eq] at h
    refine h.mono ?_
    rintro e w' ⟨z, rfl, _, _, hb⟩
    exact ⟨z.2.t, z.2.count, z.1.D, z.1.G, z.1.n, z.1.c, z.1.gn, z.1.gc, by rw [her]; rfl, hb⟩)
  clear r0 r1 her HOK HR hl20 hm20
  have k0 := cell_on HBW.out B0.out
  have k1 := cell_on HBW.out B1.out
  have k2 := cell_on HBW.out B2.out
  have k3 := cell_on HBW.out B3.out
  have k4 := cell_on HBW.out B4.out
  have k5 := cell_on HBW.out B5.out
  have k6 := cell_on HBW.out B6.out
  have k7 := cell_on HBW.out B7.out
  have k8 := cell_on HBW.out B8.out
  have k9 := cell_on HBW.out B9.out
  have k10 := cell_on HBW.out B10.out
  have k11 := cell_on HBW.out B11.out
  go_wp2_with fail
  go_at_call 21
  refine (H01.out _ HBW.out).mono ?_
  rintro e w8 ⟨rfl, hb⟩
  have HBW := Lib.hid (bthen HBW.out hb)
  clear hb
  clear k0 k1 k2 k3 k4 k5 k6 k7 k8 k9 k10 k11
  have k0 := cell_on HBW.out B0.out
  have k1 := cell_on HBW.out B1.out
  have k2 := cell_on HBW.out B2.out
  have k3 := cell_on HBW.out B3.out
  have k4 := cell_on HBW.out B4.out
  have k5 := cell_on HBW.out B5.out
  have k6 := cell_on HBW.out B6.out
  have k7 := cell_on HBW.out B7.out
  have k8 := cell_on HBW.out B8.out
  have k9 := cell_on HBW.out B9.out
  have k10 := cell_on HBW.out B10.out
  have k11 := cell_on HBW.out B11.out
  go_wp2_with fail
  go_at_call 21
  refine (H12.out _ HBW.out).mono ?_
  rintro e w9 ⟨rfl, hb⟩
  have HBW := Lib.hid (bthen HBW.out hb)
  clear hb
  clear k0 k1 k2 k3 k4 k5 k6 k7 k8 k9 k10 k11
  have k0 := cell_on HBW.out B0.out
  have k1 := cell_on HBW.out B1.out
  have k2 := cell_on HBW.out B2.out
  have k3 := cell_on HBW.out B3.out
  have k4 := cell_on HBW.out B4.out
  have k5 := cell_on HBW.out B5.out
  have k6 := cell_on HBW.out B6.out
  have k7 := cell_on HBW.out B7.out
  have k8 := cell_on HBW.out B8.out
  have k9 := cell_on HBW.out B9.out
  have k10 := cell_on HBW.out B10.out
  have k11 := cell_on HBW.out B11.out
  go_wp2_with fail
  go_at_call 21
  refine (H02.out _ HBW.out).mono ?_
  rintro e w10 ⟨rfl, hb⟩
  have HBW := Lib.hid (bthen HBW.out hb)
  clear hb
  clear k0 k1 k2 k3 k4 k5 k6 k7 k8 k9 k10 k11
  have k0 := cell_on HBW.out B0.out
  have k1 := cell_on HBW.out B1.out
  have k2 := cell_on HBW.out B2.out
  have k3 := cell_on HBW.out B3.out
  have k4 := cell_on HBW.out B4.out
  have k5 := cell_on HBW.out B5.out
  have k6 := cell_on HBW.out B6.out
  have k7 := cell_on HBW.out B7.out
  have k8 := cell_on HBW.out B8.out
  have k9 := cell_on HBW.out B9.out
  have k10 := cell_on HBW.out B10.out
  have k11 := cell_on HBW.out B11.out
  go_wp2_with fail
  go_at_call 18
  refine (HJN.out _ HBW.out).mono ?_
  rintro e w11 ⟨t', u', D', G', n', c', gn', gc', rfl, hb⟩
  have HBW := Lib.hid (bthen HBW.out hb)
  clear hb
  clear k0 k1 k2 k3 k4 k5 k6 k7 k8 k9 k10 k11
  go_upto_region 8 with fail
  obtain ⟨w12, hw12⟩ : ∃ w12, w12 = w11.alloc (.cells #[.int .i64 t', .slice D' n' c', .int .i64 u', .slice G' gn' gc'] 27) := ⟨_, rfl⟩
  have HBW := Lib.hid (show Below W1.heap.size W1 w12 by rw [hw12]; exact bpush HBW.out _)
  rw [← hw12]
  clear hw12
  have k0 := cell_on HBW.out B0.out
  have k1 := cell_on HBW.out B1.out
  have k2 := cell_on HBW.out B2.out
  have k3 := cell_on HBW.out B3.out
  have k4 := cell_on HBW.out B4.out
  have k5 := cell_on HBW.out B5.out
  have k6 := cell_on HBW.out B6.out
  have k7 := cell_on HBW.out B7.out
  have k8 := cell_on HBW.out B8.out
  have k9 := cell_on HBW.out B9.out
  have k10 := cell_on HBW.out B10.out
  have k11 := cell_on HBW.out B11.out
  obtain ⟨HA3, HB3, HC3⟩ : (a = -1 ∨ a = 0 ∨ a = 1) ∧ (b = -1 ∨ b = 0 ∨ b = 1) ∧ (g = -1 ∨ g = 0 ∨ g = 1) := by
    rw [HAV.out, HBV.out, HCV.out]; exact ⟨cmpV_three _ _, cmpV_three _ _, cmpV_three _ _⟩
  rcases HA3 with rfl | rfl | rfl <;> rcases HB3 with rfl | rfl | rfl <;> rcases HC3 with rfl | rfl | rfl
  · skip
    have H10 := Lib.hid (show ∀ W, Below W1.heap.size W1 W → Calls Try.prog 21 #[.agg #[.int .i64 t1, .slice D1 n1 c1, .int .i64 u1, .slice G1 gn1 gc1], .agg #[.int .i64 t0, .slice D0 n0 c0, .int .i64 u0, .slice G0 gn0 gc0]] W fun e w' => e = .returned (.int .i64 (1)) ∧ Below W.heap.size W w' from fun W hW => by have h := H10G.out W hW; rw [← HAV.out] at h; exact h)
    have HSO := Lib.hid (show ∀ W, Below W1.heap.size W1 W → Calls Try.prog 25 #[.slice (some ⟨w.heap.size + 1, 0, none⟩) 3 3] W fun e w' => e = .returned (.bool true) ∧ Below W.heap.size W w' from fun W hW => HSG.out W hW true (by rw [← HAV.out, ← HBV.out]; decide))
    have z9 : (er == 131) = true := by
      have h := HER.out
      rw [← HAV.out] at h
      rw [beq_iff_eq]; exact h.2 (by decide)
    clear HAV HBV HCV
    go_wp2_with fail
    go_at_call 21
    refine (H10.out _ HBW.out).mono ?_
    rintro e w13 ⟨rfl, hb⟩
    have HBW := Lib.hid (bthen HBW.out hb)
    clear hb
    clear k0 k1 k2 k3 k4 k5 k6 k7 k8 k9 k10 k11
    have k0 := cell_on HBW.out B0.out
    have k1 := cell_on HBW.out B1.out
    have k2 := cell_on HBW.out B2.out
    have k3 := cell_on HBW.out B3.out
    have k4 := cell_on HBW.out B4.out
    have k5 := cell_on HBW.out B5.out
    have k6 := cell_on HBW.out B6.out
    have k7 := cell_on HBW.out B7.out
    have k8 := cell_on HBW.out B8.out
    have k9 := cell_on HBW.out B9.out
    have k10 := cell_on HBW.out B10.out
    have k11 := cell_on HBW.out B11.out
    go_wp2_with fail
    go_at_call 21
    refine (H00.out _ HBW.out).mono ?_
    rintro e w14 ⟨rfl, hb⟩
    have HBW := Lib.hid (bthen HBW.out hb)
    clear hb
    clear k0 k1 k2 k3 k4 k5 k6 k7 k8 k9 k10 k11
    have k0 := cell_on HBW.out B0.out
    have k1 := cell_on HBW.out B1.out
    have k2 := cell_on HBW.out B2.out
    have k3 := cell_on HBW.out B3.out
    have k4 := cell_on HBW.out B4.out
    have k5 := cell_on HBW.out B5.out
    have k6 := cell_on HBW.out B6.out
    have k7 := cell_on HBW.out B7.out
    have k8 := cell_on HBW.out B8.out
    have k9 := cell_on HBW.out B9.out
    have k10 := cell_on HBW.out B10.out
    have k11 := cell_on HBW.out B11.out
    go_wp2_with fail
    go_at_call 10
    refine (alive_any _).mono ?_
    rintro e w15 ⟨rfl, hb⟩
    have HBW := Lib.hid (bthen HBW.out hb)
    clear hb
    clear k0 k1 k2 k3 k4 k5 k6 k7 k8 k9 k10 k11
    have k0 := cell_on HBW.out B0.out
    have k1 := cell_on HBW.out B1.out
    have k2 := cell_on HBW.out B2.out
    have k3 := cell_on HBW.out B3.out
    have k4 := cell_on HBW.out B4.out
    have k5 := cell_on HBW.out B5.out
    have k6 := cell_on HBW.out B6.out
    have k7 := cell_on HBW.out B7.out
    have k8 := cell_on HBW.out B8.out
    have k9 := cell_on HBW.out B9.out
    have k10 := cell_on HBW.out B10.out
    have k11 := cell_on HBW.out B11.out
    go_wp2_with fail
    go_at_call 25
    refine (HSO.out _ HBW.out).mono ?_
    rintro e w16 ⟨rfl, hb⟩
    have HBW := Lib.hid (bthen HBW.out hb)
    clear hb
    clear k0 k1 k2 k3 k4 k5 k6 k7 k8 k9 k10 k11
    have k0 := cell_on HBW.out B0.out
    have k1 := cell_on HBW.out B1.out
    have k2 := cell_on HBW.out B2.out
    have k3 := cell_on HBW.out B3.out
    have k4 := cell_on HBW.out B4.out
    have k5 := cell_on HBW.out B5.out
    have k6 := cell_on HBW.out B6.out
    have k7 := cell_on HBW.out B7.out
    have k8 := cell_on HBW.out B8.out
    have k9 := cell_on HBW.out B9.out
    have k10 := cell_on HBW.out B10.out
    have k11 := cell_on HBW.out B11.out
    go_wp2_with fail
    go_ret
    exact ⟨rfl, bthen HB1.out HBW.out⟩
  · exact absurd (HTR.out) (by rw [← HAV.out, ← HBV.out, ← HCV.out]; decide)
  · exact absurd (HTR.out) (by rw [← HAV.out, ← HBV.out, ← HCV.out]; decide)
  · skip
    have H10 := Lib.hid (show ∀ W, Below W1.heap.size W1 W → Calls Try.prog 21 #[.agg #[.int .i64 t1, .slice D1 n1 c1, .int .i64 u1, .slice G1 gn1 gc1], .agg #[.int .i64 t0, .slice D0 n0 c0, .int .i64 u0, .slice G0 gn0 gc0]] W fun e w' => e = .returned (.int .i64 (1)) ∧ Below W.heap.size W w' from fun W hW => by have h := H10G.out W hW; rw [← HAV.out] at h; exact h)
    have HSO := Lib.hid (show ∀ W, Below W1.heap.size W1 W → Calls Try.prog 25 #[.slice (some ⟨w.heap.size + 1, 0, none⟩) 3 3] W fun e w' => e = .returned (.bool false) ∧ Below W.heap.size W w' from fun W hW => HSG.out W hW false (by rw [← HAV.out, ← HBV.out]; decide))
    have z9 : (er == 131) = true := by
      have h := HER.out
      rw [← HAV.out] at h
      rw [beq_iff_eq]; exact h.2 (by decide)
    clear HAV HBV HCV
    go_wp2_with fail
    go_at_call 21
    refine (H10.out _ HBW.out).mono ?_
    rintro e w13 ⟨rfl, hb⟩
    have HBW := Lib.hid (bthen HBW.out hb)
    clear hb
    clear k0 k1 k2 k3 k4 k5 k6 k7 k8 k9 k10 k11
    have k0 := cell_on HBW.out B0.out
    have k1 := cell_on HBW.out B1.out
    have k2 := cell_on HBW.out B2.out
    have k3 := cell_on HBW.out B3.out
    have k4 := cell_on HBW.out B4.out
    have k5 := cell_on HBW.out B5.out
    have k6 := cell_on HBW.out B6.out
    have k7 := cell_on HBW.out B7.out
    have k8 := cell_on HBW.out B8.out
    have k9 := cell_on HBW.out B9.out
    have k10 := cell_on HBW.out B10.out
    have k11 := cell_on HBW.out B11.out
    go_wp2_with fail
    go_at_call 21
    refine (H00.out _ HBW.out).mono ?_
    rintro e w14 ⟨rfl, hb⟩
    have HBW := Lib.hid (bthen HBW.out hb)
    clear hb
    clear k0 k1 k2 k3 k4 k5 k6 k7 k8 k9 k10 k11
    have k0 := cell_on HBW.out B0.out
    have k1 := cell_on HBW.out B1.out
    have k2 := cell_on HBW.out B2.out
    have k3 := cell_on HBW.out B3.out
    have k4 := cell_on HBW.out B4.out
    have k5 := cell_on HBW.out B5.out
    have k6 := cell_on HBW.out B6.out
    have k7 := cell_on HBW.out B7.out
    have k8 := cell_on HBW.out B8.out
    have k9 := cell_on HBW.out B9.out
    have k10 := cell_on HBW.out B10.out
    have k11 := cell_on HBW.out B11.out
    go_wp2_with fail
    go_at_call 10
    refine (alive_any _).mono ?_
    rintro e w15 ⟨rfl, hb⟩
    have HBW := Lib.hid (bthen HBW.out hb)
    clear hb
    clear k0 k1 k2 k3 k4 k5 k6 k7 k8 k9 k10 k11
    have k0 := cell_on HBW.out B0.out
    have k1 := cell_on HBW.out B1.out
    have k2 := cell_on HBW.out B2.out
    have k3 := cell_on HBW.out B3.out
    have k4 := cell_on HBW.out B4.out
    have k5 := cell_on HBW.out B5.out
    have k6 := cell_on HBW.out B6.out
    have k7 := cell_on HBW.out B7.out
    have k8 := cell_on HBW.out B8.out
    have k9 := cell_on HBW.out B9.out
    have k10 := cell_on HBW.out B10.out
    have k11 := cell_on HBW.out B11.out
    go_wp2_with fail
    go_at_call 25
    refine (HSO.out _ HBW.out).mono ?_
    rintro e w16 ⟨rfl, hb⟩
    have HBW := Lib.hid (bthen HBW.out hb)
    clear hb
    clear k0 k1 k2 k3 k4 k5 k6 k7 k8 k9 k10 k11
    have k0 := cell_on HBW.out B0.out
    have k1 := cell_on HBW.out B1.out
    have k2 := cell_on HBW.out B2.out
    have k3 := cell_on HBW.out B3.out
    have k4 := cell_on HBW.out B4.out
    have k5 := cell_on HBW.out B5.out
    have k6 := cell_on HBW.out B6.out
    have k7 := cell_on HBW.out B7.out
    have k8 := cell_on HBW.out B8.out
    have k9 := cell_on HBW.out B9.out
    have k10 := cell_on HBW.out B10.out
    have k11 := cell_on HBW.out B11.out
    go_wp2_with fail
    go_ret
    exact ⟨rfl, bthen HB1.out HBW.out⟩
  · exact absurd (HTR.out) (by rw [← HAV.out, ← HBV.out, ← HCV.out]; decide)
  · exact absurd (HTR.out) (by rw [← HAV.out, ← HBV.out, ← HCV.out]; decide)
  · skip
    have H10 := Lib.hid (show ∀ W, Below W1.heap.size W1 W → Calls Try.prog 21 #[.agg #[.int .i64 t1, .slice D1 n1 c1, .int .i64 u1, .slice G1 gn1 gc1], .agg #[.int .i64 t0, .slice D0 n0 c0, .int .i64 u0, .slice G0 gn0 gc0]] W fun e w' => e = .returned (.int .i64 (1)) ∧ Below W.heap.size W w' from fun W hW => by have h := H10G.out W hW; rw [← HAV.out] at h; exact h)
    have HSO := Lib.hid (show ∀ W, Below W1.heap.size W1 W → Calls Try.prog 25 #[.slice (some ⟨w.heap.size + 1, 0, none⟩) 3 3] W fun e w' => e = .returned (.bool false) ∧ Below W.heap.size W w' from fun W hW => HSG.out W hW false (by rw [← HAV.out, ← HBV.out]; decide))
    have z9 : (er == 131) = true := by
      have h := HER.out
      rw [← HAV.out] at h
      rw [beq_iff_eq]; exact h.2 (by decide)
    clear HAV HBV HCV
    go_wp2_with fail
    go_at_call 21
    refine (H10.out _ HBW.out).mono ?_
    rintro e w13 ⟨rfl, hb⟩
    have HBW := Lib.hid (bthen HBW.out hb)
    clear hb
    clear k0 k1 k2 k3 k4 k5 k6 k7 k8 k9 k10 k11
    have k0 := cell_on HBW.out B0.out
    have k1 := cell_on HBW.out B1.out
    have k2 := cell_on HBW.out B2.out
    have k3 := cell_on HBW.out B3.out
    have k4 := cell_on HBW.out B4.out
    have k5 := cell_on HBW.out B5.out
    have k6 := cell_on HBW.out B6.out
    have k7 := cell_on HBW.out B7.out
    have k8 := cell_on HBW.out B8.out
    have k9 := cell_on HBW.out B9.out
    have k10 := cell_on HBW.out B10.out
    have k11 := cell_on HBW.out B11.out
    go_wp2_with fail
    go_at_call 21
    refine (H00.out _ HBW.out).mono ?_
    rintro e w14 ⟨rfl, hb⟩
    have HBW := Lib.hid (bthen HBW.out hb)
    clear hb
    clear k0 k1 k2 k3 k4 k5 k6 k7 k8 k9 k10 k11
    have k0 := cell_on HBW.out B0.out
    have k1 := cell_on HBW.out B1.out
    have k2 := cell_on HBW.out B2.out
    have k3 := cell_on HBW.out B3.out
    have k4 := cell_on HBW.out B4.out
    have k5 := cell_on HBW.out B5.out
    have k6 := cell_on HBW.out B6.out
    have k7 := cell_on HBW.out B7.out
    have k8 := cell_on HBW.out B8.out
    have k9 := cell_on HBW.out B9.out
    have k10 := cell_on HBW.out B10.out
    have k11 := cell_on HBW.out B11.out
    go_wp2_with fail
    go_at_call 10
    refine (alive_any _).mono ?_
    rintro e w15 ⟨rfl, hb⟩
    have HBW := Lib.hid (bthen HBW.out hb)
    clear hb
    clear k0 k1 k2 k3 k4 k5 k6 k7 k8 k9 k10 k11
    have k0 := cell_on HBW.out B0.out
    have k1 := cell_on HBW.out B1.out
    have k2 := cell_on HBW.out B2.out
    have k3 := cell_on HBW.out B3.out
    have k4 := cell_on HBW.out B4.out
    have k5 := cell_on HBW.out B5.out
    have k6 := cell_on HBW.out B6.out
    have k7 := cell_on HBW.out B7.out
    have k8 := cell_on HBW.out B8.out
    have k9 := cell_on HBW.out B9.out
    have k10 := cell_on HBW.out B10.out
    have k11 := cell_on HBW.out B11.out
    go_wp2_with fail
    go_at_call 25
    refine (HSO.out _ HBW.out).mono ?_
    rintro e w16 ⟨rfl, hb⟩
    have HBW := Lib.hid (bthen HBW.out hb)
    clear hb
    clear k0 k1 k2 k3 k4 k5 k6 k7 k8 k9 k10 k11
    have k0 := cell_on HBW.out B0.out
    have k1 := cell_on HBW.out B1.out
    have k2 := cell_on HBW.out B2.out
    have k3 := cell_on HBW.out B3.out
    have k4 := cell_on HBW.out B4.out
    have k5 := cell_on HBW.out B5.out
    have k6 := cell_on HBW.out B6.out
    have k7 := cell_on HBW.out B7.out
    have k8 := cell_on HBW.out B8.out
    have k9 := cell_on HBW.out B9.out
    have k10 := cell_on HBW.out B10.out
    have k11 := cell_on HBW.out B11.out
    go_wp2_with fail
    go_ret
    exact ⟨rfl, bthen HB1.out HBW.out⟩
  · skip
    have H10 := Lib.hid (show ∀ W, Below W1.heap.size W1 W → Calls Try.prog 21 #[.agg #[.int .i64 t1, .slice D1 n1 c1, .int .i64 u1, .slice G1 gn1 gc1], .agg #[.int .i64 t0, .slice D0 n0 c0, .int .i64 u0, .slice G0 gn0 gc0]] W fun e w' => e = .returned (.int .i64 (1)) ∧ Below W.heap.size W w' from fun W hW => by have h := H10G.out W hW; rw [← HAV.out] at h; exact h)
    have HSO := Lib.hid (show ∀ W, Below W1.heap.size W1 W → Calls Try.prog 25 #[.slice (some ⟨w.heap.size + 1, 0, none⟩) 3 3] W fun e w' => e = .returned (.bool false) ∧ Below W.heap.size W w' from fun W hW => HSG.out W hW false (by rw [← HAV.out, ← HBV.out]; decide))
    have z9 : (er == 131) = true := by
      have h := HER.out
      rw [← HAV.out] at h
      rw [beq_iff_eq]; exact h.2 (by decide)
    clear HAV HBV HCV
    go_wp2_with fail
    go_at_call 21
    refine (H10.out _ HBW.out).mono ?_
    rintro e w13 ⟨rfl, hb⟩
    have HBW := Lib.hid (bthen HBW.out hb)
    clear hb
    clear k0 k1 k2 k3 k4 k5 k6 k7 k8 k9 k10 k11
    have k0 := cell_on HBW.out B0.out
    have k1 := cell_on HBW.out B1.out
    have k2 := cell_on HBW.out B2.out
    have k3 := cell_on HBW.out B3.out
    have k4 := cell_on HBW.out B4.out
    have k5 := cell_on HBW.out B5.out
    have k6 := cell_on HBW.out B6.out
    have k7 := cell_on HBW.out B7.out
    have k8 := cell_on HBW.out B8.out
    have k9 := cell_on HBW.out B9.out
    have k10 := cell_on HBW.out B10.out
    have k11 := cell_on HBW.out B11.out
    go_wp2_with fail
    go_at_call 21
    refine (H00.out _ HBW.out).mono ?_
    rintro e w14 ⟨rfl, hb⟩
    have HBW := Lib.hid (bthen HBW.out hb)
    clear hb
    clear k0 k1 k2 k3 k4 k5 k6 k7 k8 k9 k10 k11
    have k0 := cell_on HBW.out B0.out
    have k1 := cell_on HBW.out B1.out
    have k2 := cell_on HBW.out B2.out
    have k3 := cell_on HBW.out B3.out
    have k4 := cell_on HBW.out B4.out
    have k5 := cell_on HBW.out B5.out
    have k6 := cell_on HBW.out B6.out
    have k7 := cell_on HBW.out B7.out
    have k8 := cell_on HBW.out B8.out
    have k9 := cell_on HBW.out B9.out
    have k10 := cell_on HBW.out B10.out
    have k11 := cell_on HBW.out B11.out
    go_wp2_with fail
    go_at_call 10
    refine (alive_any _).mono ?_
    rintro e w15 ⟨rfl, hb⟩
    have HBW := Lib.hid (bthen HBW.out hb)
    clear hb
    clear k0 k1 k2 k3 k4 k5 k6 k7 k8 k9 k10 k11
    have k0 := cell_on HBW.out B0.out
    have k1 := cell_on HBW.out B1.out
    have k2 := cell_on HBW.out B2.out
    have k3 := cell_on HBW.out B3.out
    have k4 := cell_on HBW.out B4.out
    have k5 := cell_on HBW.out B5.out
    have k6 := cell_on HBW.out B6.out
    have k7 := cell_on HBW.out B7.out
    have k8 := cell_on HBW.out B8.out
    have k9 := cell_on HBW.out B9.out
    have k10 := cell_on HBW.out B10.out
    have k11 := cell_on HBW.out B11.out
    go_wp2_with fail
    go_at_call 25
    refine (HSO.out _ HBW.out).mono ?_
    rintro e w16 ⟨rfl, hb⟩
    have HBW := Lib.hid (bthen HBW.out hb)
    clear hb
    clear k0 k1 k2 k3 k4 k5 k6 k7 k8 k9 k10 k11
    have k0 := cell_on HBW.out B0.out
    have k1 := cell_on HBW.out B1.out
    have k2 := cell_on HBW.out B2.out
    have k3 := cell_on HBW.out B3.out
    have k4 := cell_on HBW.out B4.out
    have k5 := cell_on HBW.out B5.out
    have k6 := cell_on HBW.out B6.out
    have k7 := cell_on HBW.out B7.out
    have k8 := cell_on HBW.out B8.out
    have k9 := cell_on HBW.out B9.out
    have k10 := cell_on HBW.out B10.out
    have k11 := cell_on HBW.out B11.out
    go_wp2_with fail
    go_ret
    exact ⟨rfl, bthen HB1.out HBW.out⟩
  · skip
    have H10 := Lib.hid (show ∀ W, Below W1.heap.size W1 W → Calls Try.prog 21 #[.agg #[.int .i64 t1, .slice D1 n1 c1, .int .i64 u1, .slice G1 gn1 gc1], .agg #[.int .i64 t0, .slice D0 n0 c0, .int .i64 u0, .slice G0 gn0 gc0]] W fun e w' => e = .returned (.int .i64 (1)) ∧ Below W.heap.size W w' from fun W hW => by have h := H10G.out W hW; rw [← HAV.out] at h; exact h)
    have HSO := Lib.hid (show ∀ W, Below W1.heap.size W1 W → Calls Try.prog 25 #[.slice (some ⟨w.heap.size + 1, 0, none⟩) 3 3] W fun e w' => e = .returned (.bool false) ∧ Below W.heap.size W w' from fun W hW => HSG.out W hW false (by rw [← HAV.out, ← HBV.out]; decide))
    have z9 : (er == 131) = true := by
      have h := HER.out
      rw [← HAV.out] at h
      rw [beq_iff_eq]; exact h.2 (by decide)
    clear HAV HBV HCV
    go_wp2_with fail
    go_at_call 21
    refine (H10.out _ HBW.out).mono ?_
    rintro e w13 ⟨rfl, hb⟩
    have HBW := Lib.hid (bthen HBW.out hb)
    clear hb
    clear k0 k1 k2 k3 k4 k5 k6 k7 k8 k9 k10 k11
    have k0 := cell_on HBW.out B0.out
    have k1 := cell_on HBW.out B1.out
    have k2 := cell_on HBW.out B2.out
    have k3 := cell_on HBW.out B3.out
    have k4 := cell_on HBW.out B4.out
    have k5 := cell_on HBW.out B5.out
    have k6 := cell_on HBW.out B6.out
    have k7 := cell_on HBW.out B7.out
    have k8 := cell_on HBW.out B8.out
    have k9 := cell_on HBW.out B9.out
    have k10 := cell_on HBW.out B10.out
    have k11 := cell_on HBW.out B11.out
    go_wp2_with fail
    go_at_call 21
    refine (H00.out _ HBW.out).mono ?_
    rintro e w14 ⟨rfl, hb⟩
    have HBW := Lib.hid (bthen HBW.out hb)
    clear hb
    clear k0 k1 k2 k3 k4 k5 k6 k7 k8 k9 k10 k11
    have k0 := cell_on HBW.out B0.out
    have k1 := cell_on HBW.out B1.out
    have k2 := cell_on HBW.out B2.out
    have k3 := cell_on HBW.out B3.out
    have k4 := cell_on HBW.out B4.out
    have k5 := cell_on HBW.out B5.out
    have k6 := cell_on HBW.out B6.out
    have k7 := cell_on HBW.out B7.out
    have k8 := cell_on HBW.out B8.out
    have k9 := cell_on HBW.out B9.out
    have k10 := cell_on HBW.out B10.out
    have k11 := cell_on HBW.out B11.out
    go_wp2_with fail
    go_at_call 10
    refine (alive_any _).mono ?_
    rintro e w15 ⟨rfl, hb⟩
    have HBW := Lib.hid (bthen HBW.out hb)
    clear hb
    clear k0 k1 k2 k3 k4 k5 k6 k7 k8 k9 k10 k11
    have k0 := cell_on HBW.out B0.out
    have k1 := cell_on HBW.out B1.out
    have k2 := cell_on HBW.out B2.out
    have k3 := cell_on HBW.out B3.out
    have k4 := cell_on HBW.out B4.out
    have k5 := cell_on HBW.out B5.out
    have k6 := cell_on HBW.out B6.out
    have k7 := cell_on HBW.out B7.out
    have k8 := cell_on HBW.out B8.out
    have k9 := cell_on HBW.out B9.out
    have k10 := cell_on HBW.out B10.out
    have k11 := cell_on HBW.out B11.out
    go_wp2_with fail
    go_at_call 25
    refine (HSO.out _ HBW.out).mono ?_
    rintro e w16 ⟨rfl, hb⟩
    have HBW := Lib.hid (bthen HBW.out hb)
    clear hb
    clear k0 k1 k2 k3 k4 k5 k6 k7 k8 k9 k10 k11
    have k0 := cell_on HBW.out B0.out
    have k1 := cell_on HBW.out B1.out
    have k2 := cell_on HBW.out B2.out
    have k3 := cell_on HBW.out B3.out
    have k4 := cell_on HBW.out B4.out
    have k5 := cell_on HBW.out B5.out
    have k6 := cell_on HBW.out B6.out
    have k7 := cell_on HBW.out B7.out
    have k8 := cell_on HBW.out B8.out
    have k9 := cell_on HBW.out B9.out
    have k10 := cell_on HBW.out B10.out
    have k11 := cell_on HBW.out B11.out
    go_wp2_with fail
    go_ret
    exact ⟨rfl, bthen HB1.out HBW.out⟩
  · skip
    have H10 := Lib.hid (show ∀ W, Below W1.heap.size W1 W → Calls Try.prog 21 #[.agg #[.int .i64 t1, .slice D1 n1 c1, .int .i64 u1, .slice G1 gn1 gc1], .agg #[.int .i64 t0, .slice D0 n0 c0, .int .i64 u0, .slice G0 gn0 gc0]] W fun e w' => e = .returned (.int .i64 (0)) ∧ Below W.heap.size W w' from fun W hW => by have h := H10G.out W hW; rw [← HAV.out] at h; exact h)
    have HSO := Lib.hid (show ∀ W, Below W1.heap.size W1 W → Calls Try.prog 25 #[.slice (some ⟨w.heap.size + 1, 0, none⟩) 3 3] W fun e w' => e = .returned (.bool false) ∧ Below W.heap.size W w' from fun W hW => HSG.out W hW false (by rw [← HAV.out, ← HBV.out]; decide))
    have z9 : (er == 131) = false := by
      have h := HER.out
      rw [← HAV.out] at h
      rw [beq_eq_false_iff_ne]; exact fun k => absurd (h.1 k) (by decide)
    clear HAV HBV HCV
    go_wp2_with fail
    go_at_call 21
    refine (H10.out _ HBW.out).mono ?_
    rintro e w13 ⟨rfl, hb⟩
    have HBW := Lib.hid (bthen HBW.out hb)
    clear hb
    clear k0 k1 k2 k3 k4 k5 k6 k7 k8 k9 k10 k11
    have k0 := cell_on HBW.out B0.out
    have k1 := cell_on HBW.out B1.out
    have k2 := cell_on HBW.out B2.out
    have k3 := cell_on HBW.out B3.out
    have k4 := cell_on HBW.out B4.out
    have k5 := cell_on HBW.out B5.out
    have k6 := cell_on HBW.out B6.out
    have k7 := cell_on HBW.out B7.out
    have k8 := cell_on HBW.out B8.out
    have k9 := cell_on HBW.out B9.out
    have k10 := cell_on HBW.out B10.out
    have k11 := cell_on HBW.out B11.out
    go_wp2_with fail
    go_at_call 21
    refine (H00.out _ HBW.out).mono ?_
    rintro e w14 ⟨rfl, hb⟩
    have HBW := Lib.hid (bthen HBW.out hb)
    clear hb
    clear k0 k1 k2 k3 k4 k5 k6 k7 k8 k9 k10 k11
    have k0 := cell_on HBW.out B0.out
    have k1 := cell_on HBW.out B1.out
    have k2 := cell_on HBW.out B2.out
    have k3 := cell_on HBW.out B3.out
    have k4 := cell_on HBW.out B4.out
    have k5 := cell_on HBW.out B5.out
    have k6 := cell_on HBW.out B6.out
    have k7 := cell_on HBW.out B7.out
    have k8 := cell_on HBW.out B8.out
    have k9 := cell_on HBW.out B9.out
    have k10 := cell_on HBW.out B10.out
    have k11 := cell_on HBW.out B11.out
    go_wp2_with fail
    go_at_call 10
    refine (alive_any _).mono ?_
    rintro e w15 ⟨rfl, hb⟩
    have HBW := Lib.hid (bthen HBW.out hb)
    clear hb
    clear k0 k1 k2 k3 k4 k5 k6 k7 k8 k9 k10 k11
    have k0 := cell_on HBW.out B0.out
    have k1 := cell_on HBW.out B1.out
    have k2 := cell_on HBW.out B2.out
    have k3 := cell_on HBW.out B3.out
    have k4 := cell_on HBW.out B4.out
    have k5 := cell_on HBW.out B5.out
    have k6 := cell_on HBW.out B6.out
    have k7 := cell_on HBW.out B7.out
    have k8 := cell_on HBW.out B8.out
    have k9 := cell_on HBW.out B9.out
    have k10 := cell_on HBW.out B10.out
    have k11 := cell_on HBW.out B11.out
    go_wp2_with fail
    go_at_call 25
    refine (HSO.out _ HBW.out).mono ?_
    rintro e w16 ⟨rfl, hb⟩
    have HBW := Lib.hid (bthen HBW.out hb)
    clear hb
    clear k0 k1 k2 k3 k4 k5 k6 k7 k8 k9 k10 k11
    have k0 := cell_on HBW.out B0.out
    have k1 := cell_on HBW.out B1.out
    have k2 := cell_on HBW.out B2.out
    have k3 := cell_on HBW.out B3.out
    have k4 := cell_on HBW.out B4.out
    have k5 := cell_on HBW.out B5.out
    have k6 := cell_on HBW.out B6.out
    have k7 := cell_on HBW.out B7.out
    have k8 := cell_on HBW.out B8.out
    have k9 := cell_on HBW.out B9.out
    have k10 := cell_on HBW.out B10.out
    have k11 := cell_on HBW.out B11.out
    go_wp2_with fail
    go_ret
    exact ⟨rfl, bthen HB1.out HBW.out⟩
  · exact absurd (HTR.out) (by rw [← HAV.out, ← HBV.out, ← HCV.out]; decide)
  · exact absurd (HTR.out) (by rw [← HAV.out, ← HBV.out, ← HCV.out]; decide)
  · exact absurd (HTR.out) (by rw [← HAV.out, ← HBV.out, ← HCV.out]; decide)
  · skip
    have H10 := Lib.hid (show ∀ W, Below W1.heap.size W1 W → Calls Try.prog 21 #[.agg #[.int .i64 t1, .slice D1 n1 c1, .int .i64 u1, .slice G1 gn1 gc1], .agg #[.int .i64 t0, .slice D0 n0 c0, .int .i64 u0, .slice G0 gn0 gc0]] W fun e w' => e = .returned (.int .i64 (0)) ∧ Below W.heap.size W w' from fun W hW => by have h := H10G.out W hW; rw [← HAV.out] at h; exact h)
    have HSO := Lib.hid (show ∀ W, Below W1.heap.size W1 W → Calls Try.prog 25 #[.slice (some ⟨w.heap.size + 1, 0, none⟩) 3 3] W fun e w' => e = .returned (.bool false) ∧ Below W.heap.size W w' from fun W hW => HSG.out W hW false (by rw [← HAV.out, ← HBV.out]; decide))
    have z9 : (er == 131) = false := by
      have h := HER.out
      rw [← HAV.out] at h
      rw [beq_eq_false_iff_ne]; exact fun k => absurd (h.1 k) (by decide)
    clear HAV HBV HCV
    go_wp2_with fail
    go_at_call 21
    refine (H10.out _ HBW.out).mono ?_
    rintro e w13 ⟨rfl, hb⟩
    have HBW := Lib.hid (bthen HBW.out hb)
    clear hb
    clear k0 k1 k2 k3 k4 k5 k6 k7 k8 k9 k10 k11
    have k0 := cell_on HBW.out B0.out
    have k1 := cell_on HBW.out B1.out
    have k2 := cell_on HBW.out B2.out
    have k3 := cell_on HBW.out B3.out
    have k4 := cell_on HBW.out B4.out
    have k5 := cell_on HBW.out B5.out
    have k6 := cell_on HBW.out B6.out
    have k7 := cell_on HBW.out B7.out
    have k8 := cell_on HBW.out B8.out
    have k9 := cell_on HBW.out B9.out
    have k10 := cell_on HBW.out B10.out
    have k11 := cell_on HBW.out B11.out
    go_wp2_with fail
    go_at_call 21
    refine (H00.out _ HBW.out).mono ?_
    rintro e w14 ⟨rfl, hb⟩
    have HBW := Lib.hid (bthen HBW.out hb)
    clear hb
    clear k0 k1 k2 k3 k4 k5 k6 k7 k8 k9 k10 k11
    have k0 := cell_on HBW.out B0.out
    have k1 := cell_on HBW.out B1.out
    have k2 := cell_on HBW.out B2.out
    have k3 := cell_on HBW.out B3.out
    have k4 := cell_on HBW.out B4.out
    have k5 := cell_on HBW.out B5.out
    have k6 := cell_on HBW.out B6.out
    have k7 := cell_on HBW.out B7.out
    have k8 := cell_on HBW.out B8.out
    have k9 := cell_on HBW.out B9.out
    have k10 := cell_on HBW.out B10.out
    have k11 := cell_on HBW.out B11.out
    go_wp2_with fail
    go_at_call 10
    refine (alive_any _).mono ?_
    rintro e w15 ⟨rfl, hb⟩
    have HBW := Lib.hid (bthen HBW.out hb)
    clear hb
    clear k0 k1 k2 k3 k4 k5 k6 k7 k8 k9 k10 k11
    have k0 := cell_on HBW.out B0.out
    have k1 := cell_on HBW.out B1.out
    have k2 := cell_on HBW.out B2.out
    have k3 := cell_on HBW.out B3.out
    have k4 := cell_on HBW.out B4.out
    have k5 := cell_on HBW.out B5.out
    have k6 := cell_on HBW.out B6.out
    have k7 := cell_on HBW.out B7.out
    have k8 := cell_on HBW.out B8.out
    have k9 := cell_on HBW.out B9.out
    have k10 := cell_on HBW.out B10.out
    have k11 := cell_on HBW.out B11.out
    go_wp2_with fail
    go_at_call 25
    refine (HSO.out _ HBW.out).mono ?_
    rintro e w16 ⟨rfl, hb⟩
    have HBW := Lib.hid (bthen HBW.out hb)
    clear hb
    clear k0 k1 k2 k3 k4 k5 k6 k7 k8 k9 k10 k11
    have k0 := cell_on HBW.out B0.out
    have k1 := cell_on HBW.out B1.out
    have k2 := cell_on HBW.out B2.out
    have k3 := cell_on HBW.out B3.out
    have k4 := cell_on HBW.out B4.out
    have k5 := cell_on HBW.out B5.out
    have k6 := cell_on HBW.out B6.out
    have k7 := cell_on HBW.out B7.out
    have k8 := cell_on HBW.out B8.out
    have k9 := cell_on HBW.out B9.out
    have k10 := cell_on HBW.out B10.out
    have k11 := cell_on HBW.out B11.out
    go_wp2_with fail
    go_ret
    exact ⟨rfl, bthen HB1.out HBW.out⟩
  · exact absurd (HTR.out) (by rw [← HAV.out, ← HBV.out, ← HCV.out]; decide)
  · exact absurd (HTR.out) (by rw [← HAV.out, ← HBV.out, ← HCV.out]; decide)
  · exact absurd (HTR.out) (by rw [← HAV.out, ← HBV.out, ← HCV.out]; decide)
  · skip
    have H10 := Lib.hid (show ∀ W, Below W1.heap.size W1 W → Calls Try.prog 21 #[.agg #[.int .i64 t1, .slice D1 n1 c1, .int .i64 u1, .slice G1 gn1 gc1], .agg #[.int .i64 t0, .slice D0 n0 c0, .int .i64 u0, .slice G0 gn0 gc0]] W fun e w' => e = .returned (.int .i64 (0)) ∧ Below W.heap.size W w' from fun W hW => by have h := H10G.out W hW; rw [← HAV.out] at h; exact h)
    have HSO := Lib.hid (show ∀ W, Below W1.heap.size W1 W → Calls Try.prog 25 #[.slice (some ⟨w.heap.size + 1, 0, none⟩) 3 3] W fun e w' => e = .returned (.bool false) ∧ Below W.heap.size W w' from fun W hW => HSG.out W hW false (by rw [← HAV.out, ← HBV.out]; decide))
    have z9 : (er == 131) = false := by
      have h := HER.out
      rw [← HAV.out] at h
      rw [beq_eq_false_iff_ne]; exact fun k => absurd (h.1 k) (by decide)
    clear HAV HBV HCV
    go_wp2_with fail
    go_at_call 21
    refine (H10.out _ HBW.out).mono ?_
    rintro e w13 ⟨rfl, hb⟩
    have HBW := Lib.hid (bthen HBW.out hb)
    clear hb
    clear k0 k1 k2 k3 k4 k5 k6 k7 k8 k9 k10 k11
    have k0 := cell_on HBW.out B0.out
    have k1 := cell_on HBW.out B1.out
    have k2 := cell_on HBW.out B2.out
    have k3 := cell_on HBW.out B3.out
    have k4 := cell_on HBW.out B4.out
    have k5 := cell_on HBW.out B5.out
    have k6 := cell_on HBW.out B6.out
    have k7 := cell_on HBW.out B7.out
    have k8 := cell_on HBW.out B8.out
    have k9 := cell_on HBW.out B9.out
    have k10 := cell_on HBW.out B10.out
    have k11 := cell_on HBW.out B11.out
    go_wp2_with fail
    go_at_call 21
    refine (H00.out _ HBW.out).mono ?_
    rintro e w14 ⟨rfl, hb⟩
    have HBW := Lib.hid (bthen HBW.out hb)
    clear hb
    clear k0 k1 k2 k3 k4 k5 k6 k7 k8 k9 k10 k11
    have k0 := cell_on HBW.out B0.out
    have k1 := cell_on HBW.out B1.out
    have k2 := cell_on HBW.out B2.out
    have k3 := cell_on HBW.out B3.out
    have k4 := cell_on HBW.out B4.out
    have k5 := cell_on HBW.out B5.out
    have k6 := cell_on HBW.out B6.out
    have k7 := cell_on HBW.out B7.out
    have k8 := cell_on HBW.out B8.out
    have k9 := cell_on HBW.out B9.out
    have k10 := cell_on HBW.out B10.out
    have k11 := cell_on HBW.out B11.out
    go_wp2_with fail
    go_at_call 10
    refine (alive_any _).mono ?_
    rintro e w15 ⟨rfl, hb⟩
    have HBW := Lib.hid (bthen HBW.out hb)
    clear hb
    clear k0 k1 k2 k3 k4 k5 k6 k7 k8 k9 k10 k11
    have k0 := cell_on HBW.out B0.out
    have k1 := cell_on HBW.out B1.out
    have k2 := cell_on HBW.out B2.out
    have k3 := cell_on HBW.out B3.out
    have k4 := cell_on HBW.out B4.out
    have k5 := cell_on HBW.out B5.out
    have k6 := cell_on HBW.out B6.out
    have k7 := cell_on HBW.out B7.out
    have k8 := cell_on HBW.out B8.out
    have k9 := cell_on HBW.out B9.out
    have k10 := cell_on HBW.out B10.out
    have k11 := cell_on HBW.out B11.out
    go_wp2_with fail
    go_at_call 25
    refine (HSO.out _ HBW.out).mono ?_
    rintro e w16 ⟨rfl, hb⟩
    have HBW := Lib.hid (bthen HBW.out hb)
    clear hb
    clear k0 k1 k2 k3 k4 k5 k6 k7 k8 k9 k10 k11
    have k0 := cell_on HBW.out B0.out
    have k1 := cell_on HBW.out B1.out
    have k2 := cell_on HBW.out B2.out
    have k3 := cell_on HBW.out B3.out
    have k4 := cell_on HBW.out B4.out
    have k5 := cell_on HBW.out B5.out
    have k6 := cell_on HBW.out B6.out
    have k7 := cell_on HBW.out B7.out
    have k8 := cell_on HBW.out B8.out
    have k9 := cell_on HBW.out B9.out
    have k10 := cell_on HBW.out B10.out
    have k11 := cell_on HBW.out B11.out
    go_wp2_with fail
    go_ret
    exact ⟨rfl, bthen HB1.out HBW.out⟩
  · skip
    have H10 := Lib.hid (show ∀ W, Below W1.heap.size W1 W → Calls Try.prog 21 #[.agg #[.int .i64 t1, .slice D1 n1 c1, .int .i64 u1, .slice G1 gn1 gc1], .agg #[.int .i64 t0, .slice D0 n0 c0, .int .i64 u0, .slice G0 gn0 gc0]] W fun e w' => e = .returned (.int .i64 (-1)) ∧ Below W.heap.size W w' from fun W hW => by have h := H10G.out W hW; rw [← HAV.out] at h; exact h)
    have HSO := Lib.hid (show ∀ W, Below W1.heap.size W1 W → Calls Try.prog 25 #[.slice (some ⟨w.heap.size + 1, 0, none⟩) 3 3] W fun e w' => e = .returned (.bool false) ∧ Below W.heap.size W w' from fun W hW => HSG.out W hW false (by rw [← HAV.out, ← HBV.out]; decide))
    have z9 : (er == 131) = true := by
      have h := HER.out
      rw [← HAV.out] at h
      rw [beq_iff_eq]; exact h.2 (by decide)
    clear HAV HBV HCV
    go_wp2_with fail
    go_at_call 21
    refine (H10.out _ HBW.out).mono ?_
    rintro e w13 ⟨rfl, hb⟩
    have HBW := Lib.hid (bthen HBW.out hb)
    clear hb
    clear k0 k1 k2 k3 k4 k5 k6 k7 k8 k9 k10 k11
    have k0 := cell_on HBW.out B0.out
    have k1 := cell_on HBW.out B1.out
    have k2 := cell_on HBW.out B2.out
    have k3 := cell_on HBW.out B3.out
    have k4 := cell_on HBW.out B4.out
    have k5 := cell_on HBW.out B5.out
    have k6 := cell_on HBW.out B6.out
    have k7 := cell_on HBW.out B7.out
    have k8 := cell_on HBW.out B8.out
    have k9 := cell_on HBW.out B9.out
    have k10 := cell_on HBW.out B10.out
    have k11 := cell_on HBW.out B11.out
    go_wp2_with fail
    go_at_call 21
    refine (H00.out _ HBW.out).mono ?_
    rintro e w14 ⟨rfl, hb⟩
    have HBW := Lib.hid (bthen HBW.out hb)
    clear hb
    clear k0 k1 k2 k3 k4 k5 k6 k7 k8 k9 k10 k11
    have k0 := cell_on HBW.out B0.out
    have k1 := cell_on HBW.out B1.out
    have k2 := cell_on HBW.out B2.out
    have k3 := cell_on HBW.out B3.out
    have k4 := cell_on HBW.out B4.out
    have k5 := cell_on HBW.out B5.out
    have k6 := cell_on HBW.out B6.out
    have k7 := cell_on HBW.out B7.out
    have k8 := cell_on HBW.out B8.out
    have k9 := cell_on HBW.out B9.out
    have k10 := cell_on HBW.out B10.out
    have k11 := cell_on HBW.out B11.out
    go_wp2_with fail
    go_at_call 10
    refine (alive_any _).mono ?_
    rintro e w15 ⟨rfl, hb⟩
    have HBW := Lib.hid (bthen HBW.out hb)
    clear hb
    clear k0 k1 k2 k3 k4 k5 k6 k7 k8 k9 k10 k11
    have k0 := cell_on HBW.out B0.out
    have k1 := cell_on HBW.out B1.out
    have k2 := cell_on HBW.out B2.out
    have k3 := cell_on HBW.out B3.out
    have k4 := cell_on HBW.out B4.out
    have k5 := cell_on HBW.out B5.out
    have k6 := cell_on HBW.out B6.out
    have k7 := cell_on HBW.out B7.out
    have k8 := cell_on HBW.out B8.out
    have k9 := cell_on HBW.out B9.out
    have k10 := cell_on HBW.out B10.out
    have k11 := cell_on HBW.out B11.out
    go_wp2_with fail
    go_at_call 25
    refine (HSO.out _ HBW.out).mono ?_
    rintro e w16 ⟨rfl, hb⟩
    have HBW := Lib.hid (bthen HBW.out hb)
    clear hb
    clear k0 k1 k2 k3 k4 k5 k6 k7 k8 k9 k10 k11
    have k0 := cell_on HBW.out B0.out
    have k1 := cell_on HBW.out B1.out
    have k2 := cell_on HBW.out B2.out
    have k3 := cell_on HBW.out B3.out
    have k4 := cell_on HBW.out B4.out
    have k5 := cell_on HBW.out B5.out
    have k6 := cell_on HBW.out B6.out
    have k7 := cell_on HBW.out B7.out
    have k8 := cell_on HBW.out B8.out
    have k9 := cell_on HBW.out B9.out
    have k10 := cell_on HBW.out B10.out
    have k11 := cell_on HBW.out B11.out
    go_wp2_with fail
    go_ret
    exact ⟨rfl, bthen HB1.out HBW.out⟩
  · skip
    have H10 := Lib.hid (show ∀ W, Below W1.heap.size W1 W → Calls Try.prog 21 #[.agg #[.int .i64 t1, .slice D1 n1 c1, .int .i64 u1, .slice G1 gn1 gc1], .agg #[.int .i64 t0, .slice D0 n0 c0, .int .i64 u0, .slice G0 gn0 gc0]] W fun e w' => e = .returned (.int .i64 (-1)) ∧ Below W.heap.size W w' from fun W hW => by have h := H10G.out W hW; rw [← HAV.out] at h; exact h)
    have HSO := Lib.hid (show ∀ W, Below W1.heap.size W1 W → Calls Try.prog 25 #[.slice (some ⟨w.heap.size + 1, 0, none⟩) 3 3] W fun e w' => e = .returned (.bool false) ∧ Below W.heap.size W w' from fun W hW => HSG.out W hW false (by rw [← HAV.out, ← HBV.out]; decide))
    have z9 : (er == 131) = true := by
      have h := HER.out
      rw [← HAV.out] at h
      rw [beq_iff_eq]; exact h.2 (by decide)
    clear HAV HBV HCV
    go_wp2_with fail
    go_at_call 21
    refine (H10.out _ HBW.out).mono ?_
    rintro e w13 ⟨rfl, hb⟩
    have HBW := Lib.hid (bthen HBW.out hb)
    clear hb
    clear k0 k1 k2 k3 k4 k5 k6 k7 k8 k9 k10 k11
    have k0 := cell_on HBW.out B0.out
    have k1 := cell_on HBW.out B1.out
    have k2 := cell_on HBW.out B2.out
    have k3 := cell_on HBW.out B3.out
    have k4 := cell_on HBW.out B4.out
    have k5 := cell_on HBW.out B5.out
    have k6 := cell_on HBW.out B6.out
    have k7 := cell_on HBW.out B7.out
    have k8 := cell_on HBW.out B8.out
    have k9 := cell_on HBW.out B9.out
    have k10 := cell_on HBW.out B10.out
    have k11 := cell_on HBW.out B11.out
    go_wp2_with fail
    go_at_call 21
    refine (H00.out _ HBW.out).mono ?_
    rintro e w14 ⟨rfl, hb⟩
    have HBW := Lib.hid (bthen HBW.out hb)
    clear hb
    clear k0 k1 k2 k3 k4 k5 k6 k7 k8 k9 k10 k11
    have k0 := cell_on HBW.out B0.out
    have k1 := cell_on HBW.out B1.out
    have k2 := cell_on HBW.out B2.out
    have k3 := cell_on HBW.out B3.out
    have k4 := cell_on HBW.out B4.out
    have k5 := cell_on HBW.out B5.out
    have k6 := cell_on HBW.out B6.out
    have k7 := cell_on HBW.out B7.out
    have k8 := cell_on HBW.out B8.out
    have k9 := cell_on HBW.out B9.out
    have k10 := cell_on HBW.out B10.out
    have k11 := cell_on HBW.out B11.out
    go_wp2_with fail
    go_at_call 10
    refine (alive_any _).mono ?_
    rintro e w15 ⟨rfl, hb⟩
    have HBW := Lib.hid (bthen HBW.out hb)
    clear hb
    clear k0 k1 k2 k3 k4 k5 k6 k7 k8 k9 k10 k11
    have k0 := cell_on HBW.out B0.out
    have k1 := cell_on HBW.out B1.out
    have k2 := cell_on HBW.out B2.out
    have k3 := cell_on HBW.out B3.out
    have k4 := cell_on HBW.out B4.out
    have k5 := cell_on HBW.out B5.out
    have k6 := cell_on HBW.out B6.out
    have k7 := cell_on HBW.out B7.out
    have k8 := cell_on HBW.out B8.out
    have k9 := cell_on HBW.out B9.out
    have k10 := cell_on HBW.out B10.out
    have k11 := cell_on HBW.out B11.out
    go_wp2_with fail
    go_at_call 25
    refine (HSO.out _ HBW.out).mono ?_
    rintro e w16 ⟨rfl, hb⟩
    have HBW := Lib.hid (bthen HBW.out hb)
    clear hb
    clear k0 k1 k2 k3 k4 k5 k6 k7 k8 k9 k10 k11
    have k0 := cell_on HBW.out B0.out
    have k1 := cell_on HBW.out B1.out
    have k2 := cell_on HBW.out B2.out
    have k3 := cell_on HBW.out B3.out
    have k4 := cell_on HBW.out B4.out
    have k5 := cell_on HBW.out B5.out
    have k6 := cell_on HBW.out B6.out
    have k7 := cell_on HBW.out B7.out
    have k8 := cell_on HBW.out B8.out
    have k9 := cell_on HBW.out B9.out
    have k10 := cell_on HBW.out B10.out
    have k11 := cell_on HBW.out B11.out
    go_wp2_with fail
    go_ret
    exact ⟨rfl, bthen HB1.out HBW.out⟩
  · skip
    have H10 := Lib.hid (show ∀ W, Below W1.heap.size W1 W → Calls Try.prog 21 #[.agg #[.int .i64 t1, .slice D1 n1 c1, .int .i64 u1, .slice G1 gn1 gc1], .agg #[.int .i64 t0, .slice D0 n0 c0, .int .i64 u0, .slice G0 gn0 gc0]] W fun e w' => e = .returned (.int .i64 (-1)) ∧ Below W.heap.size W w' from fun W hW => by have h := H10G.out W hW; rw [← HAV.out] at h; exact h)
    have HSO := Lib.hid (show ∀ W, Below W1.heap.size W1 W → Calls Try.prog 25 #[.slice (some ⟨w.heap.size + 1, 0, none⟩) 3 3] W fun e w' => e = .returned (.bool false) ∧ Below W.heap.size W w' from fun W hW => HSG.out W hW false (by rw [← HAV.out, ← HBV.out]; decide))
    have z9 : (er == 131) = true := by
      have h := HER.out
      rw [← HAV.out] at h
      rw [beq_iff_eq]; exact h.2 (by decide)
    clear HAV HBV HCV
    go_wp2_with fail
    go_at_call 21
    refine (H10.out _ HBW.out).mono ?_
    rintro e w13 ⟨rfl, hb⟩
    have HBW := Lib.hid (bthen HBW.out hb)
    clear hb
    clear k0 k1 k2 k3 k4 k5 k6 k7 k8 k9 k10 k11
    have k0 := cell_on HBW.out B0.out
    have k1 := cell_on HBW.out B1.out
    have k2 := cell_on HBW.out B2.out
    have k3 := cell_on HBW.out B3.out
    have k4 := cell_on HBW.out B4.out
    have k5 := cell_on HBW.out B5.out
    have k6 := cell_on HBW.out B6.out
    have k7 := cell_on HBW.out B7.out
    have k8 := cell_on HBW.out B8.out
    have k9 := cell_on HBW.out B9.out
    have k10 := cell_on HBW.out B10.out
    have k11 := cell_on HBW.out B11.out
    go_wp2_with fail
    go_at_call 21
    refine (H00.out _ HBW.out).mono ?_
    rintro e w14 ⟨rfl, hb⟩
    have HBW := Lib.hid (bthen HBW.out hb)
    clear hb
    clear k0 k1 k2 k3 k4 k5 k6 k7 k8 k9 k10 k11
    have k0 := cell_on HBW.out B0.out
    have k1 := cell_on HBW.out B1.out
    have k2 := cell_on HBW.out B2.out
    have k3 := cell_on HBW.out B3.out
    have k4 := cell_on HBW.out B4.out
    have k5 := cell_on HBW.out B5.out
    have k6 := cell_on HBW.out B6.out
    have k7 := cell_on HBW.out B7.out
    have k8 := cell_on HBW.out B8.out
    have k9 := cell_on HBW.out B9.out
    have k10 := cell_on HBW.out B10.out
    have k11 := cell_on HBW.out B11.out
    go_wp2_with fail
    go_at_call 10
    refine (alive_any _).mono ?_
    rintro e w15 ⟨rfl, hb⟩
    have HBW := Lib.hid (bthen HBW.out hb)
    clear hb
    clear k0 k1 k2 k3 k4 k5 k6 k7 k8 k9 k10 k11
    have k0 := cell_on HBW.out B0.out
    have k1 := cell_on HBW.out B1.out
    have k2 := cell_on HBW.out B2.out
    have k3 := cell_on HBW.out B3.out
    have k4 := cell_on HBW.out B4.out
    have k5 := cell_on HBW.out B5.out
    have k6 := cell_on HBW.out B6.out
    have k7 := cell_on HBW.out B7.out
    have k8 := cell_on HBW.out B8.out
    have k9 := cell_on HBW.out B9.out
    have k10 := cell_on HBW.out B10.out
    have k11 := cell_on HBW.out B11.out
    go_wp2_with fail
    go_at_call 25
    refine (HSO.out _ HBW.out).mono ?_
    rintro e w16 ⟨rfl, hb⟩
    have HBW := Lib.hid (bthen HBW.out hb)
    clear hb
    clear k0 k1 k2 k3 k4 k5 k6 k7 k8 k9 k10 k11
    have k0 := cell_on HBW.out B0.out
    have k1 := cell_on HBW.out B1.out
    have k2 := cell_on HBW.out B2.out
    have k3 := cell_on HBW.out B3.out
    have k4 := cell_on HBW.out B4.out
    have k5 := cell_on HBW.out B5.out
    have k6 := cell_on HBW.out B6.out
    have k7 := cell_on HBW.out B7.out
    have k8 := cell_on HBW.out B8.out
    have k9 := cell_on HBW.out B9.out
    have k10 := cell_on HBW.out B10.out
    have k11 := cell_on HBW.out B11.out
    go_wp2_with fail
    go_ret
    exact ⟨rfl, bthen HB1.out HBW.out⟩
  · exact absurd (HTR.out) (by rw [← HAV.out, ← HBV.out, ← HCV.out]; decide)
  · exact absurd (HTR.out) (by rw [← HAV.out, ← HBV.out, ← HCV.out]; decide)
  · skip
    have H10 := Lib.hid (show ∀ W, Below W1.heap.size W1 W → Calls Try.prog 21 #[.agg #[.int .i64 t1, .slice D1 n1 c1, .int .i64 u1, .slice G1 gn1 gc1], .agg #[.int .i64 t0, .slice D0 n0 c0, .int .i64 u0, .slice G0 gn0 gc0]] W fun e w' => e = .returned (.int .i64 (-1)) ∧ Below W.heap.size W w' from fun W hW => by have h := H10G.out W hW; rw [← HAV.out] at h; exact h)
    have HSO := Lib.hid (show ∀ W, Below W1.heap.size W1 W → Calls Try.prog 25 #[.slice (some ⟨w.heap.size + 1, 0, none⟩) 3 3] W fun e w' => e = .returned (.bool false) ∧ Below W.heap.size W w' from fun W hW => HSG.out W hW false (by rw [← HAV.out, ← HBV.out]; decide))
    have z9 : (er == 131) = true := by
      have h := HER.out
      rw [← HAV.out] at h
      rw [beq_iff_eq]; exact h.2 (by decide)
    clear HAV HBV HCV
    go_wp2_with fail
    go_at_call 21
    refine (H10.out _ HBW.out).mono ?_
    rintro e w13 ⟨rfl, hb⟩
    have HBW := Lib.hid (bthen HBW.out hb)
    clear hb
    clear k0 k1 k2 k3 k4 k5 k6 k7 k8 k9 k10 k11
    have k0 := cell_on HBW.out B0.out
    have k1 := cell_on HBW.out B1.out
    have k2 := cell_on HBW.out B2.out
    have k3 := cell_on HBW.out B3.out
    have k4 := cell_on HBW.out B4.out
    have k5 := cell_on HBW.out B5.out
    have k6 := cell_on HBW.out B6.out
    have k7 := cell_on HBW.out B7.out
    have k8 := cell_on HBW.out B8.out
    have k9 := cell_on HBW.out B9.out
    have k10 := cell_on HBW.out B10.out
    have k11 := cell_on HBW.out B11.out
    go_wp2_with fail
    go_at_call 21
    refine (H00.out _ HBW.out).mono ?_
    rintro e w14 ⟨rfl, hb⟩
    have HBW := Lib.hid (bthen HBW.out hb)
    clear hb
    clear k0 k1 k2 k3 k4 k5 k6 k7 k8 k9 k10 k11
    have k0 := cell_on HBW.out B0.out
    have k1 := cell_on HBW.out B1.out
    have k2 := cell_on HBW.out B2.out
    have k3 := cell_on HBW.out B3.out
    have k4 := cell_on HBW.out B4.out
    have k5 := cell_on HBW.out B5.out
    have k6 := cell_on HBW.out B6.out
    have k7 := cell_on HBW.out B7.out
    have k8 := cell_on HBW.out B8.out
    have k9 := cell_on HBW.out B9.out
    have k10 := cell_on HBW.out B10.out
    have k11 := cell_on HBW.out B11.out
    go_wp2_with fail
    go_at_call 10
    refine (alive_any _).mono ?_
    rintro e w15 ⟨rfl, hb⟩
    have HBW := Lib.hid (bthen HBW.out hb)
    clear hb
    clear k0 k1 k2 k3 k4 k5 k6 k7 k8 k9 k10 k11
    have k0 := cell_on HBW.out B0.out
    have k1 := cell_on HBW.out B1.out
    have k2 := cell_on HBW.out B2.out
    have k3 := cell_on HBW.out B3.out
    have k4 := cell_on HBW.out B4.out
    have k5 := cell_on HBW.out B5.out
    have k6 := cell_on HBW.out B6.out
    have k7 := cell_on HBW.out B7.out
    have k8 := cell_on HBW.out B8.out
    have k9 := cell_on HBW.out B9.out
    have k10 := cell_on HBW.out B10.out
    have k11 := cell_on HBW.out B11.out
    go_wp2_with fail
    go_at_call 25
    refine (HSO.out _ HBW.out).mono ?_
    rintro e w16 ⟨rfl, hb⟩
    have HBW := Lib.hid (bthen HBW.out hb)
    clear hb
    clear k0 k1 k2 k3 k4 k5 k6 k7 k8 k9 k10 k11
    have k0 := cell_on HBW.out B0.out
    have k1 := cell_on HBW.out B1.out
    have k2 := cell_on HBW.out B2.out
    have k3 := cell_on HBW.out B3.out
    have k4 := cell_on HBW.out B4.out
    have k5 := cell_on HBW.out B5.out
    have k6 := cell_on HBW.out B6.out
    have k7 := cell_on HBW.out B7.out
    have k8 := cell_on HBW.out B8.out
    have k9 := cell_on HBW.out B9.out
    have k10 := cell_on HBW.out B10.out
    have k11 := cell_on HBW.out B11.out
    go_wp2_with fail
    go_ret
    exact ⟨rfl, bthen HB1.out HBW.out⟩
  · exact absurd (HTR.out) (by rw [← HAV.out, ← HBV.out, ← HCV.out]; decide)
  · exact absurd (HTR.out) (by rw [← HAV.out, ← HBV.out, ← HCV.out]; decide)
  · skip
    have H10 := Lib.hid (show ∀ W, Below W1.heap.size W1 W → Calls Try.prog 21 #[.agg #[.int .i64 t1, .slice D1 n1 c1, .int .i64 u1, .slice G1 gn1 gc1], .agg #[.int .i64 t0, .slice D0 n0 c0, .int .i64 u0, .slice G0 gn0 gc0]] W fun e w' => e = .returned (.int .i64 (-1)) ∧ Below W.heap.size W w' from fun W hW => by have h := H10G.out W hW; rw [← HAV.out] at h; exact h)
    have HSO := Lib.hid (show ∀ W, Below W1.heap.size W1 W → Calls Try.prog 25 #[.slice (some ⟨w.heap.size + 1, 0, none⟩) 3 3] W fun e w' => e = .returned (.bool false) ∧ Below W.heap.size W w' from fun W hW => HSG.out W hW false (by rw [← HAV.out, ← HBV.out]; decide))
    have z9 : (er == 131) = true := by
      have h := HER.out
      rw [← HAV.out] at h
      rw [beq_iff_eq]; exact h.2 (by decide)
    clear HAV HBV HCV
    go_wp2_with fail
    go_at_call 21
    refine (H10.out _ HBW.out).mono ?_
    rintro e w13 ⟨rfl, hb⟩
    have HBW := Lib.hid (bthen HBW.out hb)
    clear hb
    clear k0 k1 k2 k3 k4 k5 k6 k7 k8 k9 k10 k11
    have k0 := cell_on HBW.out B0.out
    have k1 := cell_on HBW.out B1.out
    have k2 := cell_on HBW.out B2.out
    have k3 := cell_on HBW.out B3.out
    have k4 := cell_on HBW.out B4.out
    have k5 := cell_on HBW.out B5.out
    have k6 := cell_on HBW.out B6.out
    have k7 := cell_on HBW.out B7.out
    have k8 := cell_on HBW.out B8.out
    have k9 := cell_on HBW.out B9.out
    have k10 := cell_on HBW.out B10.out
    have k11 := cell_on HBW.out B11.out
    go_wp2_with fail
    go_at_call 21
    refine (H00.out _ HBW.out).mono ?_
    rintro e w14 ⟨rfl, hb⟩
    have HBW := Lib.hid (bthen HBW.out hb)
    clear hb
    clear k0 k1 k2 k3 k4 k5 k6 k7 k8 k9 k10 k11
    have k0 := cell_on HBW.out B0.out
    have k1 := cell_on HBW.out B1.out
    have k2 := cell_on HBW.out B2.out
    have k3 := cell_on HBW.out B3.out
    have k4 := cell_on HBW.out B4.out
    have k5 := cell_on HBW.out B5.out
    have k6 := cell_on HBW.out B6.out
    have k7 := cell_on HBW.out B7.out
    have k8 := cell_on HBW.out B8.out
    have k9 := cell_on HBW.out B9.out
    have k10 := cell_on HBW.out B10.out
    have k11 := cell_on HBW.out B11.out
    go_wp2_with fail
    go_at_call 10
    refine (alive_any _).mono ?_
    rintro e w15 ⟨rfl, hb⟩
    have HBW := Lib.hid (bthen HBW.out hb)
    clear hb
    clear k0 k1 k2 k3 k4 k5 k6 k7 k8 k9 k10 k11
    have k0 := cell_on HBW.out B0.out
    have k1 := cell_on HBW.out B1.out
    have k2 := cell_on HBW.out B2.out
    have k3 := cell_on HBW.out B3.out
    have k4 := cell_on HBW.out B4.out
    have k5 := cell_on HBW.out B5.out
    have k6 := cell_on HBW.out B6.out
    have k7 := cell_on HBW.out B7.out
    have k8 := cell_on HBW.out B8.out
    have k9 := cell_on HBW.out B9.out
    have k10 := cell_on HBW.out B10.out
    have k11 := cell_on HBW.out B11.out
    go_wp2_with fail
    go_at_call 25
    refine (HSO.out _ HBW.out).mono ?_
    rintro e w16 ⟨rfl, hb⟩
    have HBW := Lib.hid (bthen HBW.out hb)
    clear hb
    clear k0 k1 k2 k3 k4 k5 k6 k7 k8 k9 k10 k11
    have k0 := cell_on HBW.out B0.out
    have k1 := cell_on HBW.out B1.out
    have k2 := cell_on HBW.out B2.out
    have k3 := cell_on HBW.out B3.out
    have k4 := cell_on HBW.out B4.out
    have k5 := cell_on HBW.out B5.out
    have k6 := cell_on HBW.out B6.out
    have k7 := cell_on HBW.out B7.out
    have k8 := cell_on HBW.out B8.out
    have k9 := cell_on HBW.out B9.out
    have k10 := cell_on HBW.out B10.out
    have k11 := cell_on HBW.out B11.out
    go_wp2_with fail
    go_ret
    exact ⟨rfl, bthen HB1.out HBW.out⟩
end Go.Proofs.Ytlfhjjlgmhkepaa
