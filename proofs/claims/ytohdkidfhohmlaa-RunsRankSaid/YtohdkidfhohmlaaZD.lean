/- The law RunsRank: its walk. -/
import Derived.Test.YtohdkidfhohmlaaZA
namespace Go.Proofs.Ytohdkidfhohmlaa
open Go.RowKit
set_option linter.unusedSimpArgs false
set_option linter.unusedVariables false
theorem rank_tot {p : Int × Int} {L : List (Int × Int)} {b : Int} (h : rightB b (p :: L) = true) : rankZ 65536 (p :: L) = (p.2 - p.1) + rankZ 65536 L := by
  obtain ⟨h1, h2, h3, h4⟩ := right_inv h
  rw [rankZ, if_pos (by omega), Int.min_eq_left h3]
theorem sel_yes : ∀ {L : List (Int × Int)} {b k : Int}, rightB b L = true → -1 ≤ b → 0 ≤ k → k < rankZ 65536 L → ∃ y, selZ k L = (y, true) ∧ b < y ∧ y ≤ 65536 ∧ hasB y L = true ∧ rankZ y L = k := by
  intro L
  induction L with
  | nil => intro b k _ _ h0 h1; simp [rankZ] at h1; omega
  | cons p L ih =>
    intro b k h hb h0 h1
    rw [rank_tot h] at h1
    obtain ⟨a1, a2, a3, a4⟩ := right_inv h
    by_cases hk : k < p.2 - p.1
    · refine ⟨p.1 + k, by rw [selZ, if_pos hk], by omega, by omega, by rw [hasB, if_pos (by omega)], ?_⟩
      rw [rankZ, rank_zero L p.2 (p.1 + k) a4 (by omega)]
      split
      · rw [Int.min_eq_right (by omega)]; omega
      · omega
    · obtain ⟨y, y1, y2, y3, y4, y5⟩ := ih (k := k - (p.2 - p.1)) a4 (by omega) (by omega) (by omega)
      refine ⟨y, by rw [selZ, if_neg hk, y1], by omega, y3, by rw [hasB, if_neg (by omega), y4], ?_⟩
      rw [rankZ, y5, if_pos (by omega), Int.min_eq_left (by omega)]; omega
theorem sel_no : ∀ {L : List (Int × Int)} {b k : Int}, rightB b L = true → rankZ 65536 L ≤ k → selZ k L = (0, false) := by
  intro L
  induction L with
  | nil => intro b k _ _; rfl
  | cons p L ih =>
    intro b k h h1
    rw [rank_tot h] at h1
    obtain ⟨a1, a2, a3, a4⟩ := right_inv h
    have := rank_bd (x := 65536) a4
    rw [selZ, if_neg (by omega)]
    exact ih a4 (by omega)
theorem rank_over : ∀ {L : List (Int × Int)} {b x : Int}, rightB b L = true → 65536 ≤ x → rankZ x L = rankZ 65536 L := by
  intro L
  induction L with
  | nil => intro b x _ _; rfl
  | cons p L ih =>
    intro b x h h1
    obtain ⟨a1, a2, a3, a4⟩ := right_inv h
    rw [rankZ, rankZ, ih a4 h1, if_pos (by omega), if_pos (by omega), Int.min_eq_left (by omega), Int.min_eq_left (by omega)]
theorem rank_to {L : List (Int × Int)} (h : rightB (-1) L = true) (x : Int) : 0 ≤ rankZ x L ∧ rankZ x L ≤ 65536 := by
  have h9 := rank_le h 65536
  rcases Int.lt_or_le x 0 with hx | hx
  · rw [rank_zero L (-1) x h (by omega)]; omega
  · rcases Int.lt_or_le x 65536 with h2 | h2
    · have := rank_le h x.toNat
      rw [show ((x.toNat : Nat) : Int) = x by omega] at this; omega
    · rw [rank_over h h2]; exact h9
theorem cnt_cut {f g : Int → Bool} {n : Nat} (h1 : ∀ i : Nat, i < n → f i = g i) (h2 : ∀ i : Nat, n ≤ i → f i = false) : ∀ m, cnt f (n + m) = cnt g n := by
  intro m
  induction m with
  | zero => exact cnt_congr h1
  | succ m ih => rw [← Nat.add_assoc, cnt, ih, h2 (n + m) (by omega)]; simp
theorem rank_cut {L X : List (Int × Int)} {x : Int} (hL : rightB (-1) L = true) (hX : rightB (-1) X = true) (h : ∀ z, hasB z L = TT (hasB z X) (hasB z (uptoL x))) : rankZ 65536 L = rankZ x X := by
  have h' : ∀ z, hasB z L = (hasB z X && decide (0 ≤ z ∧ z < x ∧ z < 65536)) := fun z => by rw [h, upto_has]; rfl
  have hc := rank_cnt hL 65536
  rcases Int.lt_or_le x 0 with hx | hx
  · rw [rank_zero X (-1) x hX (by omega)]
    have hl : ([] : List (Int × Int)) = L := right_ext rfl hL (fun z => by rw [h', show decide (0 ≤ z ∧ z < x ∧ z < 65536) = false by rw [decide_eq_false_iff_not]; omega]; simp [hasB])
    rw [← hl]; rfl
  · have key : ∀ n : Nat, n ≤ 65536 → (n : Int) ≤ x → ((n : Int) = x ∨ n = 65536) → rankZ 65536 L = rankZ n X := by
      intro n hn hnx ho
      have e : n + (65536 - n) = 65536 := by omega
      rw [rank_cnt hX n, ← cnt_cut (f := fun z => hasB z L) (n := n) ?_ ?_ (65536 - n), e]
      · exact hc
      · intro i hi
        show hasB i L = hasB i X
        rw [h', decide_eq_true (by omega)]; simp
      · intro i hi
        show hasB i L = false
        rw [h', show decide (0 ≤ (i : Int) ∧ (i : Int) < x ∧ (i : Int) < 65536) = false by rw [decide_eq_false_iff_not]; omega]; simp
    rcases Int.lt_or_le x 65536 with h2 | h2
    · rw [key x.toNat (by omega) (by omega) (.inl (by omega)), show ((x.toNat : Nat) : Int) = x by omega]
    · rw [key 65536 (by omega) (by omega) (.inr rfl), rank_over hX h2]; rfl
theorem min_lt {x : Int} (h : x < 65536) : min x 65536 = x := Int.min_eq_left (by omega)
set_option maxRecDepth 100000 in
set_option maxHeartbeats 4000000 in
theorem rank_walk (AX : Option Addr) (nX cX : Nat) (X : List (Int × Int)) (k x : Int) (w : World) (hrX : Row w AX (cellsP X)) (hzX : nX = X.length) (hcX : nX ≤ cX) (k1 : -9223372036854775808 ≤ k) (k2 : k ≤ 9223372036854775807) (x1 : -9223372036854775808 ≤ x) (x2 : x ≤ 9223372036854775807) :
    Calls Try.prog 7 #[.slice AX nX cX, .int .i64 k, .int .i64 x] w fun e w' => e = .returned (.bool true) ∧ Below w.heap.size w w' := by
  subst hzX
  have HRX := Lib.hid hrX
  have HCX := Lib.hid hcX
  clear hrX hcX
  have HB := Lib.hid (Below.refl w.heap.size w)
  by_cases hX : okSet X
  · skip
    have HTX := Lib.hid hX.2.1
    have HOX := Lib.hid ((okB_iff X).2 hX)
    have HX3 := Lib.hid hX.1
    obtain ⟨V, hV⟩ : ∃ V, rankZ 65536 X = V := ⟨_, rfl⟩
    have hv : 0 ≤ V ∧ V ≤ 3000 := by rw [← hV]; exact ⟨rank_bd hX.2.1, hX.2.2⟩
    obtain ⟨hv0, hv3⟩ := hv
    have hsel : (k < 0 ∧ selF k X = (0, false)) ∨ (0 ≤ k ∧ k < V ∧ ∃ y, selF k X = (y, true) ∧ 0 ≤ y ∧ y ≤ 65536 ∧ hasB y X = true ∧ rankZ y X = k) ∨ (0 ≤ k ∧ V ≤ k ∧ selF k X = (0, false)) := by
      rcases Int.lt_or_le k 0 with h | h
      · exact .inl ⟨h, by rw [selF, if_pos h]⟩
      · rcases Int.lt_or_le k V with h2 | h2
        · obtain ⟨y, y1, y2, y3, y4, y5⟩ := sel_yes hX.2.1 (Int.le_refl _) h (by rw [hV]; exact h2)
          exact .inr (.inl ⟨h, h2, y, by rw [selF, if_neg (by omega), y1], by omega, y3, y4, y5⟩)
        · exact .inr (.inr ⟨h, h2, by rw [selF, if_neg (by omega), sel_no hX.2.1 (by rw [hV]; exact h2)]⟩)
    obtain ⟨R2, hR2⟩ : ∃ R, rankZ x X = R := ⟨_, rfl⟩
    have hr2 := rank_to hX.2.1 x
    rw [hR2] at hr2
    obtain ⟨hr20, hr26⟩ := hr2
    obtain ⟨B0, hB0⟩ : ∃ B, hasB x X = B := ⟨_, rfl⟩
    have hcase : ∃ mx R1, -9223372036854775808 ≤ mx ∧ mx ≤ 65536 ∧ min x 65536 = mx ∧ rankZ (mx + 1) X = R1 ∧ (R1 == R2 + 1) = B0 ∧ (B0 = true → 0 ≤ x ∧ x < 65536) := by
      have hstep := rank_step (x := x) hX.2.1
      rcases Int.lt_or_le x 65536 with h6 | h6
      · refine ⟨x, _, x1, by omega, Int.min_eq_left (by omega), rfl, ?_, fun h => has_range hX.2.1 (hB0.trans h)⟩
        rw [hstep, hR2, hB0]
        cases B0 <;> simp; omega
      · refine ⟨65536, _, by omega, Int.le_refl _, Int.min_eq_right h6, rfl, ?_, fun h => has_range hX.2.1 (hB0.trans h)⟩
        have hb : B0 = false := by
          cases hb : B0 with
          | false => rfl
          | true => have := has_range hX.2.1 (hB0.trans hb); omega
        rw [rank_over hX.2.1 (by omega), ← rank_over hX.2.1 h6, hR2, hb]; simp; omega
    obtain ⟨mx, R1, hmx1, hmx2, hmx, hR1, hRR, hBR⟩ := hcase
    have hw1 : IntKind.i64.wrap (mx + 1) = mx + 1 := IntWalk.i64_in _ (by omega)
    have hw2 : IntKind.i64.wrap (R2 + 1) = R2 + 1 := IntWalk.i64_in _ (by omega)
    have HV := Lib.hid hV
    have HR2 := Lib.hid hR2
    have HR1 := Lib.hid hR1
    have HB0 := Lib.hid hB0
    have HSEL := Lib.hid hsel
    have HMX := Lib.hid hmx
    have HBR := Lib.hid hBR
    have HRR := Lib.hid hRR
    clear hX hV hR2 hR1 hB0 hsel hmx hBR hRR
    have hmn : (x < 65536 ∧ x = mx) ∨ (65536 ≤ x ∧ 65536 = mx) := by have := HMX.out; omega
    rcases hmn with ⟨hx6a, rfl⟩ | ⟨hx6a, rfl⟩
    · skip
      have HMIN := Lib.hid (show min x 65536 = x from HMX.out)
      rcases HSEL.out with ⟨hk0, hs⟩ | ⟨hk0, hkv, y, hs, hy0, hy6, hyh, hyr⟩ | ⟨hk0, hkv, hs⟩
      · skip
        have HS := Lib.hid hs
        clear hs
        go_enter Try.func7, Try.ntmps7
        go_wp2_with fail
        refine (fits_any AX X.length cX X _ HRX.out rfl).mono ?_
        rintro e w1 ⟨rfl, hB⟩
        rw [HOX.out]
        replace HRX := Lib.hid (HRX.out.keep (Nat.le_refl _) hB)
        replace HB := Lib.hid (bthen HB.out (hB))
        clear hB
        go_wp2_with fail
        refine (select_any AX X.length cX k X _ HRX.out rfl (by have := HX3.out; omega) HTX.out k1 k2).mono ?_
        rintro e w2 ⟨rfl, hB⟩
        rw [HS.out]
        replace HRX := Lib.hid (HRX.out.keep (Nat.le_refl _) hB)
        replace HB := Lib.hid (bthen HB.out (hB))
        clear hB
        go_wp2_with fail
        have hmin := HMIN.out
        refine (upto_any2 x _).mono ?_
        rintro e w3 ⟨Au, cu, rfl, hru, hlu, hB⟩
        obtain ⟨Lu, huu⟩ : ∃ L, L = uptoL (x) := ⟨_, rfl⟩
        rw [← huu] at hru hlu ⊢
        have HRu := Lib.hid hru
        have HCu := Lib.hid hlu
        have HTu := Lib.hid (show rightB (-1) Lu = true by rw [huu]; exact upto_right _)
        have HHu := Lib.hid huu
        clear hru hlu huu
        replace HRX := Lib.hid (HRX.out.keep (Nat.le_refl _) hB)
        replace HB := Lib.hid (bthen HB.out (hB))
        clear hB
        go_wp2_with fail
        refine (and_any AX Au X.length cX Lu.length cu X Lu _ HRX.out HRu.out rfl rfl HCX.out HCu.out HTX.out HTu.out).mono ?_
        rintro e w4 ⟨Lb, Ab, cb, rfl, hrb, hlb, hgb, hhb, hB⟩
        have HRb := Lib.hid hrb
        have HCb := Lib.hid hlb
        have HTb := Lib.hid hgb
        have HHb := Lib.hid hhb
        clear hrb hlb hgb hhb
        replace HRX := Lib.hid (HRX.out.keep (Nat.le_refl _) hB)
        replace HRu := Lib.hid (HRu.out.keep (Nat.le_refl _) hB)
        replace HB := Lib.hid (bthen HB.out (hB))
        clear hB
        have HRB := Lib.hid (show rankZ 65536 Lb = R2 by rw [← HR2.out]; exact rank_cut HTb.out HTX.out (fun z => by rw [HHb.out, HHu.out]))
        go_wp2_with fail
        refine (alive_any _).mono ?_
        rintro e w5 ⟨rfl, hB⟩
        replace HRX := Lib.hid (HRX.out.keep (Nat.le_refl _) hB)
        replace HRu := Lib.hid (HRu.out.keep (Nat.le_refl _) hB)
        replace HRb := Lib.hid (HRb.out.keep (Nat.le_refl _) hB)
        replace HB := Lib.hid (bthen HB.out (hB))
        clear hB
        go_wp2_with fail
        refine (rank_any AX X.length cX x X _ HRX.out rfl (by have := HX3.out; omega) HTX.out).mono ?_
        rintro e w6 ⟨rfl, hB⟩
        rw [HR2.out]
        replace HRX := Lib.hid (HRX.out.keep (Nat.le_refl _) hB)
        replace HRu := Lib.hid (HRu.out.keep (Nat.le_refl _) hB)
        replace HRb := Lib.hid (HRb.out.keep (Nat.le_refl _) hB)
        replace HB := Lib.hid (bthen HB.out (hB))
        clear hB
        go_wp2_with fail
        refine (count_any Ab Lb.length cb Lb _ HRb.out rfl (by have := right_length HTb.out; omega) HTb.out).mono ?_
        rintro e w7 ⟨rfl, hB⟩
        rw [HRB.out]
        replace HRX := Lib.hid (HRX.out.keep (Nat.le_refl _) hB)
        replace HRu := Lib.hid (HRu.out.keep (Nat.le_refl _) hB)
        replace HRb := Lib.hid (HRb.out.keep (Nat.le_refl _) hB)
        replace HB := Lib.hid (bthen HB.out (hB))
        clear hB
        go_wp2_with fail
        refine (has_any AX X.length cX x X _ HRX.out rfl (by have := HX3.out; omega)).mono ?_
        rintro e w8 ⟨rfl, hB⟩
        rw [HB0.out]
        replace HRX := Lib.hid (HRX.out.keep (Nat.le_refl _) hB)
        replace HRu := Lib.hid (HRu.out.keep (Nat.le_refl _) hB)
        replace HRb := Lib.hid (HRb.out.keep (Nat.le_refl _) hB)
        replace HB := Lib.hid (bthen HB.out (hB))
        clear hB
        go_wp2_with fail
        refine (rank_any AX X.length cX (x + 1) X _ HRX.out rfl (by have := HX3.out; omega) HTX.out).mono ?_
        rintro e w9 ⟨rfl, hB⟩
        rw [HR1.out]
        replace HRX := Lib.hid (HRX.out.keep (Nat.le_refl _) hB)
        replace HRu := Lib.hid (HRu.out.keep (Nat.le_refl _) hB)
        replace HRb := Lib.hid (HRb.out.keep (Nat.le_refl _) hB)
        replace HB := Lib.hid (bthen HB.out (hB))
        clear hB
        go_wp2_with fail
        refine (rank_any AX X.length cX x X _ HRX.out rfl (by have := HX3.out; omega) HTX.out).mono ?_
        rintro e w10 ⟨rfl, hB⟩
        rw [HR2.out]
        replace HRX := Lib.hid (HRX.out.keep (Nat.le_refl _) hB)
        replace HRu := Lib.hid (HRu.out.keep (Nat.le_refl _) hB)
        replace HRb := Lib.hid (HRb.out.keep (Nat.le_refl _) hB)
        replace HB := Lib.hid (bthen HB.out (hB))
        clear hB
        have hrr := HRR.out
        cases B0 with
        | false =>
          by_cases hx0 : 0 ≤ x
          · by_cases hx6 : x < 65536
            · go_wp2_with fail
              go_ret
              exact ⟨rfl, HB.out⟩
            · go_wp2_with fail
              go_ret
              exact ⟨rfl, HB.out⟩
          · go_wp2_with fail
            go_ret
            exact ⟨rfl, HB.out⟩
        | true =>
          have hbr := HBR.out rfl
          obtain ⟨hx0, hx6⟩ := hbr
          go_wp2_with fail
          go_ret
          exact ⟨rfl, HB.out⟩
      · skip
        have HS := Lib.hid hs
        clear hs
        have HYH := Lib.hid hyh
        have HYR := Lib.hid hyr
        clear hyh hyr
        go_enter Try.func7, Try.ntmps7
        go_wp2_with fail
        refine (fits_any AX X.length cX X _ HRX.out rfl).mono ?_
        rintro e w11 ⟨rfl, hB⟩
        rw [HOX.out]
        replace HRX := Lib.hid (HRX.out.keep (Nat.le_refl _) hB)
        replace HB := Lib.hid (bthen HB.out (hB))
        clear hB
        go_wp2_with fail
        refine (select_any AX X.length cX k X _ HRX.out rfl (by have := HX3.out; omega) HTX.out k1 k2).mono ?_
        rintro e w12 ⟨rfl, hB⟩
        rw [HS.out]
        replace HRX := Lib.hid (HRX.out.keep (Nat.le_refl _) hB)
        replace HB := Lib.hid (bthen HB.out (hB))
        clear hB
        go_wp2_with fail
        refine (count_any AX X.length cX X _ HRX.out rfl (by have := HX3.out; omega) HTX.out).mono ?_
        rintro e w13 ⟨rfl, hB⟩
        rw [HV.out]
        replace HRX := Lib.hid (HRX.out.keep (Nat.le_refl _) hB)
        replace HB := Lib.hid (bthen HB.out (hB))
        clear hB
        go_wp2_with fail
        refine (has_any AX X.length cX y X _ HRX.out rfl (by have := HX3.out; omega)).mono ?_
        rintro e w14 ⟨rfl, hB⟩
        rw [HYH.out]
        replace HRX := Lib.hid (HRX.out.keep (Nat.le_refl _) hB)
        replace HB := Lib.hid (bthen HB.out (hB))
        clear hB
        go_wp2_with fail
        refine (rank_any AX X.length cX y X _ HRX.out rfl (by have := HX3.out; omega) HTX.out).mono ?_
        rintro e w15 ⟨rfl, hB⟩
        rw [HYR.out]
        replace HRX := Lib.hid (HRX.out.keep (Nat.le_refl _) hB)
        replace HB := Lib.hid (bthen HB.out (hB))
        clear hB
        go_wp2_with fail
        have hmin := HMIN.out
        refine (upto_any2 x _).mono ?_
        rintro e w16 ⟨Au, cu, rfl, hru, hlu, hB⟩
        obtain ⟨Lu, huu⟩ : ∃ L, L = uptoL (x) := ⟨_, rfl⟩
        rw [← huu] at hru hlu ⊢
        have HRu := Lib.hid hru
        have HCu := Lib.hid hlu
        have HTu := Lib.hid (show rightB (-1) Lu = true by rw [huu]; exact upto_right _)
        have HHu := Lib.hid huu
        clear hru hlu huu
        replace HRX := Lib.hid (HRX.out.keep (Nat.le_refl _) hB)
        replace HB := Lib.hid (bthen HB.out (hB))
        clear hB
        go_wp2_with fail
        refine (and_any AX Au X.length cX Lu.length cu X Lu _ HRX.out HRu.out rfl rfl HCX.out HCu.out HTX.out HTu.out).mono ?_
        rintro e w17 ⟨Lb, Ab, cb, rfl, hrb, hlb, hgb, hhb, hB⟩
        have HRb := Lib.hid hrb
        have HCb := Lib.hid hlb
        have HTb := Lib.hid hgb
        have HHb := Lib.hid hhb
        clear hrb hlb hgb hhb
        replace HRX := Lib.hid (HRX.out.keep (Nat.le_refl _) hB)
        replace HRu := Lib.hid (HRu.out.keep (Nat.le_refl _) hB)
        replace HB := Lib.hid (bthen HB.out (hB))
        clear hB
        have HRB := Lib.hid (show rankZ 65536 Lb = R2 by rw [← HR2.out]; exact rank_cut HTb.out HTX.out (fun z => by rw [HHb.out, HHu.out]))
        go_wp2_with fail
        refine (alive_any _).mono ?_
        rintro e w18 ⟨rfl, hB⟩
        replace HRX := Lib.hid (HRX.out.keep (Nat.le_refl _) hB)
        replace HRu := Lib.hid (HRu.out.keep (Nat.le_refl _) hB)
        replace HRb := Lib.hid (HRb.out.keep (Nat.le_refl _) hB)
        replace HB := Lib.hid (bthen HB.out (hB))
        clear hB
        go_wp2_with fail
        refine (rank_any AX X.length cX x X _ HRX.out rfl (by have := HX3.out; omega) HTX.out).mono ?_
        rintro e w19 ⟨rfl, hB⟩
        rw [HR2.out]
        replace HRX := Lib.hid (HRX.out.keep (Nat.le_refl _) hB)
        replace HRu := Lib.hid (HRu.out.keep (Nat.le_refl _) hB)
        replace HRb := Lib.hid (HRb.out.keep (Nat.le_refl _) hB)
        replace HB := Lib.hid (bthen HB.out (hB))
        clear hB
        go_wp2_with fail
        refine (count_any Ab Lb.length cb Lb _ HRb.out rfl (by have := right_length HTb.out; omega) HTb.out).mono ?_
        rintro e w20 ⟨rfl, hB⟩
        rw [HRB.out]
        replace HRX := Lib.hid (HRX.out.keep (Nat.le_refl _) hB)
        replace HRu := Lib.hid (HRu.out.keep (Nat.le_refl _) hB)
        replace HRb := Lib.hid (HRb.out.keep (Nat.le_refl _) hB)
        replace HB := Lib.hid (bthen HB.out (hB))
        clear hB
        go_wp2_with fail
        refine (has_any AX X.length cX x X _ HRX.out rfl (by have := HX3.out; omega)).mono ?_
        rintro e w21 ⟨rfl, hB⟩
        rw [HB0.out]
        replace HRX := Lib.hid (HRX.out.keep (Nat.le_refl _) hB)
        replace HRu := Lib.hid (HRu.out.keep (Nat.le_refl _) hB)
        replace HRb := Lib.hid (HRb.out.keep (Nat.le_refl _) hB)
        replace HB := Lib.hid (bthen HB.out (hB))
        clear hB
        go_wp2_with fail
        refine (rank_any AX X.length cX (x + 1) X _ HRX.out rfl (by have := HX3.out; omega) HTX.out).mono ?_
        rintro e w22 ⟨rfl, hB⟩
        rw [HR1.out]
        replace HRX := Lib.hid (HRX.out.keep (Nat.le_refl _) hB)
        replace HRu := Lib.hid (HRu.out.keep (Nat.le_refl _) hB)
        replace HRb := Lib.hid (HRb.out.keep (Nat.le_refl _) hB)
        replace HB := Lib.hid (bthen HB.out (hB))
        clear hB
        go_wp2_with fail
        refine (rank_any AX X.length cX x X _ HRX.out rfl (by have := HX3.out; omega) HTX.out).mono ?_
        rintro e w23 ⟨rfl, hB⟩
        rw [HR2.out]
        replace HRX := Lib.hid (HRX.out.keep (Nat.le_refl _) hB)
        replace HRu := Lib.hid (HRu.out.keep (Nat.le_refl _) hB)
        replace HRb := Lib.hid (HRb.out.keep (Nat.le_refl _) hB)
        replace HB := Lib.hid (bthen HB.out (hB))
        clear hB
        have hrr := HRR.out
        cases B0 with
        | false =>
          by_cases hx0 : 0 ≤ x
          · by_cases hx6 : x < 65536
            · go_wp2_with fail
              go_ret
              exact ⟨rfl, HB.out⟩
            · go_wp2_with fail
              go_ret
              exact ⟨rfl, HB.out⟩
          · go_wp2_with fail
            go_ret
            exact ⟨rfl, HB.out⟩
        | true =>
          have hbr := HBR.out rfl
          obtain ⟨hx0, hx6⟩ := hbr
          go_wp2_with fail
          go_ret
          exact ⟨rfl, HB.out⟩
      · skip
        have HS := Lib.hid hs
        clear hs
        go_enter Try.func7, Try.ntmps7
        go_wp2_with fail
        refine (fits_any AX X.length cX X _ HRX.out rfl).mono ?_
        rintro e w24 ⟨rfl, hB⟩
        rw [HOX.out]
        replace HRX := Lib.hid (HRX.out.keep (Nat.le_refl _) hB)
        replace HB := Lib.hid (bthen HB.out (hB))
        clear hB
        go_wp2_with fail
        refine (select_any AX X.length cX k X _ HRX.out rfl (by have := HX3.out; omega) HTX.out k1 k2).mono ?_
        rintro e w25 ⟨rfl, hB⟩
        rw [HS.out]
        replace HRX := Lib.hid (HRX.out.keep (Nat.le_refl _) hB)
        replace HB := Lib.hid (bthen HB.out (hB))
        clear hB
        go_wp2_with fail
        refine (count_any AX X.length cX X _ HRX.out rfl (by have := HX3.out; omega) HTX.out).mono ?_
        rintro e w26 ⟨rfl, hB⟩
        rw [HV.out]
        replace HRX := Lib.hid (HRX.out.keep (Nat.le_refl _) hB)
        replace HB := Lib.hid (bthen HB.out (hB))
        clear hB
        go_wp2_with fail
        have hmin := HMIN.out
        refine (upto_any2 x _).mono ?_
        rintro e w27 ⟨Au, cu, rfl, hru, hlu, hB⟩
        obtain ⟨Lu, huu⟩ : ∃ L, L = uptoL (x) := ⟨_, rfl⟩
        rw [← huu] at hru hlu ⊢
        have HRu := Lib.hid hru
        have HCu := Lib.hid hlu
        have HTu := Lib.hid (show rightB (-1) Lu = true by rw [huu]; exact upto_right _)
        have HHu := Lib.hid huu
        clear hru hlu huu
        replace HRX := Lib.hid (HRX.out.keep (Nat.le_refl _) hB)
        replace HB := Lib.hid (bthen HB.out (hB))
        clear hB
        go_wp2_with fail
        refine (and_any AX Au X.length cX Lu.length cu X Lu _ HRX.out HRu.out rfl rfl HCX.out HCu.out HTX.out HTu.out).mono ?_
        rintro e w28 ⟨Lb, Ab, cb, rfl, hrb, hlb, hgb, hhb, hB⟩
        have HRb := Lib.hid hrb
        have HCb := Lib.hid hlb
        have HTb := Lib.hid hgb
        have HHb := Lib.hid hhb
        clear hrb hlb hgb hhb
        replace HRX := Lib.hid (HRX.out.keep (Nat.le_refl _) hB)
        replace HRu := Lib.hid (HRu.out.keep (Nat.le_refl _) hB)
        replace HB := Lib.hid (bthen HB.out (hB))
        clear hB
        have HRB := Lib.hid (show rankZ 65536 Lb = R2 by rw [← HR2.out]; exact rank_cut HTb.out HTX.out (fun z => by rw [HHb.out, HHu.out]))
        go_wp2_with fail
        refine (alive_any _).mono ?_
        rintro e w29 ⟨rfl, hB⟩
        replace HRX := Lib.hid (HRX.out.keep (Nat.le_refl _) hB)
        replace HRu := Lib.hid (HRu.out.keep (Nat.le_refl _) hB)
        replace HRb := Lib.hid (HRb.out.keep (Nat.le_refl _) hB)
        replace HB := Lib.hid (bthen HB.out (hB))
        clear hB
        go_wp2_with fail
        refine (rank_any AX X.length cX x X _ HRX.out rfl (by have := HX3.out; omega) HTX.out).mono ?_
        rintro e w30 ⟨rfl, hB⟩
        rw [HR2.out]
        replace HRX := Lib.hid (HRX.out.keep (Nat.le_refl _) hB)
        replace HRu := Lib.hid (HRu.out.keep (Nat.le_refl _) hB)
        replace HRb := Lib.hid (HRb.out.keep (Nat.le_refl _) hB)
        replace HB := Lib.hid (bthen HB.out (hB))
        clear hB
        go_wp2_with fail
        refine (count_any Ab Lb.length cb Lb _ HRb.out rfl (by have := right_length HTb.out; omega) HTb.out).mono ?_
        rintro e w31 ⟨rfl, hB⟩
        rw [HRB.out]
        replace HRX := Lib.hid (HRX.out.keep (Nat.le_refl _) hB)
        replace HRu := Lib.hid (HRu.out.keep (Nat.le_refl _) hB)
        replace HRb := Lib.hid (HRb.out.keep (Nat.le_refl _) hB)
        replace HB := Lib.hid (bthen HB.out (hB))
        clear hB
        go_wp2_with fail
        refine (has_any AX X.length cX x X _ HRX.out rfl (by have := HX3.out; omega)).mono ?_
        rintro e w32 ⟨rfl, hB⟩
        rw [HB0.out]
        replace HRX := Lib.hid (HRX.out.keep (Nat.le_refl _) hB)
        replace HRu := Lib.hid (HRu.out.keep (Nat.le_refl _) hB)
        replace HRb := Lib.hid (HRb.out.keep (Nat.le_refl _) hB)
        replace HB := Lib.hid (bthen HB.out (hB))
        clear hB
        go_wp2_with fail
        refine (rank_any AX X.length cX (x + 1) X _ HRX.out rfl (by have := HX3.out; omega) HTX.out).mono ?_
        rintro e w33 ⟨rfl, hB⟩
        rw [HR1.out]
        replace HRX := Lib.hid (HRX.out.keep (Nat.le_refl _) hB)
        replace HRu := Lib.hid (HRu.out.keep (Nat.le_refl _) hB)
        replace HRb := Lib.hid (HRb.out.keep (Nat.le_refl _) hB)
        replace HB := Lib.hid (bthen HB.out (hB))
        clear hB
        go_wp2_with fail
        refine (rank_any AX X.length cX x X _ HRX.out rfl (by have := HX3.out; omega) HTX.out).mono ?_
        rintro e w34 ⟨rfl, hB⟩
        rw [HR2.out]
        replace HRX := Lib.hid (HRX.out.keep (Nat.le_refl _) hB)
        replace HRu := Lib.hid (HRu.out.keep (Nat.le_refl _) hB)
        replace HRb := Lib.hid (HRb.out.keep (Nat.le_refl _) hB)
        replace HB := Lib.hid (bthen HB.out (hB))
        clear hB
        have hrr := HRR.out
        cases B0 with
        | false =>
          by_cases hx0 : 0 ≤ x
          · by_cases hx6 : x < 65536
            · go_wp2_with fail
              go_ret
              exact ⟨rfl, HB.out⟩
            · go_wp2_with fail
              go_ret
              exact ⟨rfl, HB.out⟩
          · go_wp2_with fail
            go_ret
            exact ⟨rfl, HB.out⟩
        | true =>
          have hbr := HBR.out rfl
          obtain ⟨hx0, hx6⟩ := hbr
          go_wp2_with fail
          go_ret
          exact ⟨rfl, HB.out⟩
    · skip
      have HMIN := Lib.hid (show min x 65536 = 65536 from HMX.out)
      clear hw1 hmx1 hmx2
      replace HR1 := Lib.hid (show rankZ 65537 X = R1 from HR1.out)
      rcases HSEL.out with ⟨hk0, hs⟩ | ⟨hk0, hkv, y, hs, hy0, hy6, hyh, hyr⟩ | ⟨hk0, hkv, hs⟩
      · skip
        have HS := Lib.hid hs
        clear hs
        go_enter Try.func7, Try.ntmps7
        go_wp2_with fail
        refine (fits_any AX X.length cX X _ HRX.out rfl).mono ?_
        rintro e w35 ⟨rfl, hB⟩
        rw [HOX.out]
        replace HRX := Lib.hid (HRX.out.keep (Nat.le_refl _) hB)
        replace HB := Lib.hid (bthen HB.out (hB))
        clear hB
        go_wp2_with fail
        refine (select_any AX X.length cX k X _ HRX.out rfl (by have := HX3.out; omega) HTX.out k1 k2).mono ?_
        rintro e w36 ⟨rfl, hB⟩
        rw [HS.out]
        replace HRX := Lib.hid (HRX.out.keep (Nat.le_refl _) hB)
        replace HB := Lib.hid (bthen HB.out (hB))
        clear hB
        go_wp2_with fail
        have hmin := HMIN.out
        refine (upto_any2 x _).mono ?_
        rintro e w37 ⟨Au, cu, rfl, hru, hlu, hB⟩
        obtain ⟨Lu, huu⟩ : ∃ L, L = uptoL (x) := ⟨_, rfl⟩
        rw [← huu] at hru hlu ⊢
        have HRu := Lib.hid hru
        have HCu := Lib.hid hlu
        have HTu := Lib.hid (show rightB (-1) Lu = true by rw [huu]; exact upto_right _)
        have HHu := Lib.hid huu
        clear hru hlu huu
        replace HRX := Lib.hid (HRX.out.keep (Nat.le_refl _) hB)
        replace HB := Lib.hid (bthen HB.out (hB))
        clear hB
        go_wp2_with fail
        refine (and_any AX Au X.length cX Lu.length cu X Lu _ HRX.out HRu.out rfl rfl HCX.out HCu.out HTX.out HTu.out).mono ?_
        rintro e w38 ⟨Lb, Ab, cb, rfl, hrb, hlb, hgb, hhb, hB⟩
        have HRb := Lib.hid hrb
        have HCb := Lib.hid hlb
        have HTb := Lib.hid hgb
        have HHb := Lib.hid hhb
        clear hrb hlb hgb hhb
        replace HRX := Lib.hid (HRX.out.keep (Nat.le_refl _) hB)
        replace HRu := Lib.hid (HRu.out.keep (Nat.le_refl _) hB)
        replace HB := Lib.hid (bthen HB.out (hB))
        clear hB
        have HRB := Lib.hid (show rankZ 65536 Lb = R2 by rw [← HR2.out]; exact rank_cut HTb.out HTX.out (fun z => by rw [HHb.out, HHu.out]))
        go_wp2_with fail
        refine (alive_any _).mono ?_
        rintro e w39 ⟨rfl, hB⟩
        replace HRX := Lib.hid (HRX.out.keep (Nat.le_refl _) hB)
        replace HRu := Lib.hid (HRu.out.keep (Nat.le_refl _) hB)
        replace HRb := Lib.hid (HRb.out.keep (Nat.le_refl _) hB)
        replace HB := Lib.hid (bthen HB.out (hB))
        clear hB
        go_wp2_with fail
        refine (rank_any AX X.length cX x X _ HRX.out rfl (by have := HX3.out; omega) HTX.out).mono ?_
        rintro e w40 ⟨rfl, hB⟩
        rw [HR2.out]
        replace HRX := Lib.hid (HRX.out.keep (Nat.le_refl _) hB)
        replace HRu := Lib.hid (HRu.out.keep (Nat.le_refl _) hB)
        replace HRb := Lib.hid (HRb.out.keep (Nat.le_refl _) hB)
        replace HB := Lib.hid (bthen HB.out (hB))
        clear hB
        go_wp2_with fail
        refine (count_any Ab Lb.length cb Lb _ HRb.out rfl (by have := right_length HTb.out; omega) HTb.out).mono ?_
        rintro e w41 ⟨rfl, hB⟩
        rw [HRB.out]
        replace HRX := Lib.hid (HRX.out.keep (Nat.le_refl _) hB)
        replace HRu := Lib.hid (HRu.out.keep (Nat.le_refl _) hB)
        replace HRb := Lib.hid (HRb.out.keep (Nat.le_refl _) hB)
        replace HB := Lib.hid (bthen HB.out (hB))
        clear hB
        go_wp2_with fail
        refine (has_any AX X.length cX x X _ HRX.out rfl (by have := HX3.out; omega)).mono ?_
        rintro e w42 ⟨rfl, hB⟩
        rw [HB0.out]
        replace HRX := Lib.hid (HRX.out.keep (Nat.le_refl _) hB)
        replace HRu := Lib.hid (HRu.out.keep (Nat.le_refl _) hB)
        replace HRb := Lib.hid (HRb.out.keep (Nat.le_refl _) hB)
        replace HB := Lib.hid (bthen HB.out (hB))
        clear hB
        go_wp2_with fail
        refine (rank_any AX X.length cX 65537 X _ HRX.out rfl (by have := HX3.out; omega) HTX.out).mono ?_
        rintro e w43 ⟨rfl, hB⟩
        rw [HR1.out]
        replace HRX := Lib.hid (HRX.out.keep (Nat.le_refl _) hB)
        replace HRu := Lib.hid (HRu.out.keep (Nat.le_refl _) hB)
        replace HRb := Lib.hid (HRb.out.keep (Nat.le_refl _) hB)
        replace HB := Lib.hid (bthen HB.out (hB))
        clear hB
        go_wp2_with fail
        refine (rank_any AX X.length cX x X _ HRX.out rfl (by have := HX3.out; omega) HTX.out).mono ?_
        rintro e w44 ⟨rfl, hB⟩
        rw [HR2.out]
        replace HRX := Lib.hid (HRX.out.keep (Nat.le_refl _) hB)
        replace HRu := Lib.hid (HRu.out.keep (Nat.le_refl _) hB)
        replace HRb := Lib.hid (HRb.out.keep (Nat.le_refl _) hB)
        replace HB := Lib.hid (bthen HB.out (hB))
        clear hB
        have hrr := HRR.out
        cases B0 with
        | false =>
          by_cases hx0 : 0 ≤ x
          · by_cases hx6 : x < 65536
            · go_wp2_with fail
              go_ret
              exact ⟨rfl, HB.out⟩
            · go_wp2_with fail
              go_ret
              exact ⟨rfl, HB.out⟩
          · go_wp2_with fail
            go_ret
            exact ⟨rfl, HB.out⟩
        | true =>
          have hbr := HBR.out rfl
          obtain ⟨hx0, hx6⟩ := hbr
          go_wp2_with fail
          go_ret
          exact ⟨rfl, HB.out⟩
      · skip
        have HS := Lib.hid hs
        clear hs
        have HYH := Lib.hid hyh
        have HYR := Lib.hid hyr
        clear hyh hyr
        go_enter Try.func7, Try.ntmps7
        go_wp2_with fail
        refine (fits_any AX X.length cX X _ HRX.out rfl).mono ?_
        rintro e w45 ⟨rfl, hB⟩
        rw [HOX.out]
        replace HRX := Lib.hid (HRX.out.keep (Nat.le_refl _) hB)
        replace HB := Lib.hid (bthen HB.out (hB))
        clear hB
        go_wp2_with fail
        refine (select_any AX X.length cX k X _ HRX.out rfl (by have := HX3.out; omega) HTX.out k1 k2).mono ?_
        rintro e w46 ⟨rfl, hB⟩
        rw [HS.out]
        replace HRX := Lib.hid (HRX.out.keep (Nat.le_refl _) hB)
        replace HB := Lib.hid (bthen HB.out (hB))
        clear hB
        go_wp2_with fail
        refine (count_any AX X.length cX X _ HRX.out rfl (by have := HX3.out; omega) HTX.out).mono ?_
        rintro e w47 ⟨rfl, hB⟩
        rw [HV.out]
        replace HRX := Lib.hid (HRX.out.keep (Nat.le_refl _) hB)
        replace HB := Lib.hid (bthen HB.out (hB))
        clear hB
        go_wp2_with fail
        refine (has_any AX X.length cX y X _ HRX.out rfl (by have := HX3.out; omega)).mono ?_
        rintro e w48 ⟨rfl, hB⟩
        rw [HYH.out]
        replace HRX := Lib.hid (HRX.out.keep (Nat.le_refl _) hB)
        replace HB := Lib.hid (bthen HB.out (hB))
        clear hB
        go_wp2_with fail
        refine (rank_any AX X.length cX y X _ HRX.out rfl (by have := HX3.out; omega) HTX.out).mono ?_
        rintro e w49 ⟨rfl, hB⟩
        rw [HYR.out]
        replace HRX := Lib.hid (HRX.out.keep (Nat.le_refl _) hB)
        replace HB := Lib.hid (bthen HB.out (hB))
        clear hB
        go_wp2_with fail
        have hmin := HMIN.out
        refine (upto_any2 x _).mono ?_
        rintro e w50 ⟨Au, cu, rfl, hru, hlu, hB⟩
        obtain ⟨Lu, huu⟩ : ∃ L, L = uptoL (x) := ⟨_, rfl⟩
        rw [← huu] at hru hlu ⊢
        have HRu := Lib.hid hru
        have HCu := Lib.hid hlu
        have HTu := Lib.hid (show rightB (-1) Lu = true by rw [huu]; exact upto_right _)
        have HHu := Lib.hid huu
        clear hru hlu huu
        replace HRX := Lib.hid (HRX.out.keep (Nat.le_refl _) hB)
        replace HB := Lib.hid (bthen HB.out (hB))
        clear hB
        go_wp2_with fail
        refine (and_any AX Au X.length cX Lu.length cu X Lu _ HRX.out HRu.out rfl rfl HCX.out HCu.out HTX.out HTu.out).mono ?_
        rintro e w51 ⟨Lb, Ab, cb, rfl, hrb, hlb, hgb, hhb, hB⟩
        have HRb := Lib.hid hrb
        have HCb := Lib.hid hlb
        have HTb := Lib.hid hgb
        have HHb := Lib.hid hhb
        clear hrb hlb hgb hhb
        replace HRX := Lib.hid (HRX.out.keep (Nat.le_refl _) hB)
        replace HRu := Lib.hid (HRu.out.keep (Nat.le_refl _) hB)
        replace HB := Lib.hid (bthen HB.out (hB))
        clear hB
        have HRB := Lib.hid (show rankZ 65536 Lb = R2 by rw [← HR2.out]; exact rank_cut HTb.out HTX.out (fun z => by rw [HHb.out, HHu.out]))
        go_wp2_with fail
        refine (alive_any _).mono ?_
        rintro e w52 ⟨rfl, hB⟩
        replace HRX := Lib.hid (HRX.out.keep (Nat.le_refl _) hB)
        replace HRu := Lib.hid (HRu.out.keep (Nat.le_refl _) hB)
        replace HRb := Lib.hid (HRb.out.keep (Nat.le_refl _) hB)
        replace HB := Lib.hid (bthen HB.out (hB))
        clear hB
        go_wp2_with fail
        refine (rank_any AX X.length cX x X _ HRX.out rfl (by have := HX3.out; omega) HTX.out).mono ?_
        rintro e w53 ⟨rfl, hB⟩
        rw [HR2.out]
        replace HRX := Lib.hid (HRX.out.keep (Nat.le_refl _) hB)
        replace HRu := Lib.hid (HRu.out.keep (Nat.le_refl _) hB)
        replace HRb := Lib.hid (HRb.out.keep (Nat.le_refl _) hB)
        replace HB := Lib.hid (bthen HB.out (hB))
        clear hB
        go_wp2_with fail
        refine (count_any Ab Lb.length cb Lb _ HRb.out rfl (by have := right_length HTb.out; omega) HTb.out).mono ?_
        rintro e w54 ⟨rfl, hB⟩
        rw [HRB.out]
        replace HRX := Lib.hid (HRX.out.keep (Nat.le_refl _) hB)
        replace HRu := Lib.hid (HRu.out.keep (Nat.le_refl _) hB)
        replace HRb := Lib.hid (HRb.out.keep (Nat.le_refl _) hB)
        replace HB := Lib.hid (bthen HB.out (hB))
        clear hB
        go_wp2_with fail
        refine (has_any AX X.length cX x X _ HRX.out rfl (by have := HX3.out; omega)).mono ?_
        rintro e w55 ⟨rfl, hB⟩
        rw [HB0.out]
        replace HRX := Lib.hid (HRX.out.keep (Nat.le_refl _) hB)
        replace HRu := Lib.hid (HRu.out.keep (Nat.le_refl _) hB)
        replace HRb := Lib.hid (HRb.out.keep (Nat.le_refl _) hB)
        replace HB := Lib.hid (bthen HB.out (hB))
        clear hB
        go_wp2_with fail
        refine (rank_any AX X.length cX 65537 X _ HRX.out rfl (by have := HX3.out; omega) HTX.out).mono ?_
        rintro e w56 ⟨rfl, hB⟩
        rw [HR1.out]
        replace HRX := Lib.hid (HRX.out.keep (Nat.le_refl _) hB)
        replace HRu := Lib.hid (HRu.out.keep (Nat.le_refl _) hB)
        replace HRb := Lib.hid (HRb.out.keep (Nat.le_refl _) hB)
        replace HB := Lib.hid (bthen HB.out (hB))
        clear hB
        go_wp2_with fail
        refine (rank_any AX X.length cX x X _ HRX.out rfl (by have := HX3.out; omega) HTX.out).mono ?_
        rintro e w57 ⟨rfl, hB⟩
        rw [HR2.out]
        replace HRX := Lib.hid (HRX.out.keep (Nat.le_refl _) hB)
        replace HRu := Lib.hid (HRu.out.keep (Nat.le_refl _) hB)
        replace HRb := Lib.hid (HRb.out.keep (Nat.le_refl _) hB)
        replace HB := Lib.hid (bthen HB.out (hB))
        clear hB
        have hrr := HRR.out
        cases B0 with
        | false =>
          by_cases hx0 : 0 ≤ x
          · by_cases hx6 : x < 65536
            · go_wp2_with fail
              go_ret
              exact ⟨rfl, HB.out⟩
            · go_wp2_with fail
              go_ret
              exact ⟨rfl, HB.out⟩
          · go_wp2_with fail
            go_ret
            exact ⟨rfl, HB.out⟩
        | true =>
          have hbr := HBR.out rfl
          obtain ⟨hx0, hx6⟩ := hbr
          go_wp2_with fail
          go_ret
          exact ⟨rfl, HB.out⟩
      · skip
        have HS := Lib.hid hs
        clear hs
        go_enter Try.func7, Try.ntmps7
        go_wp2_with fail
        refine (fits_any AX X.length cX X _ HRX.out rfl).mono ?_
        rintro e w58 ⟨rfl, hB⟩
        rw [HOX.out]
        replace HRX := Lib.hid (HRX.out.keep (Nat.le_refl _) hB)
        replace HB := Lib.hid (bthen HB.out (hB))
        clear hB
        go_wp2_with fail
        refine (select_any AX X.length cX k X _ HRX.out rfl (by have := HX3.out; omega) HTX.out k1 k2).mono ?_
        rintro e w59 ⟨rfl, hB⟩
        rw [HS.out]
        replace HRX := Lib.hid (HRX.out.keep (Nat.le_refl _) hB)
        replace HB := Lib.hid (bthen HB.out (hB))
        clear hB
        go_wp2_with fail
        refine (count_any AX X.length cX X _ HRX.out rfl (by have := HX3.out; omega) HTX.out).mono ?_
        rintro e w60 ⟨rfl, hB⟩
        rw [HV.out]
        replace HRX := Lib.hid (HRX.out.keep (Nat.le_refl _) hB)
        replace HB := Lib.hid (bthen HB.out (hB))
        clear hB
        go_wp2_with fail
        have hmin := HMIN.out
        refine (upto_any2 x _).mono ?_
        rintro e w61 ⟨Au, cu, rfl, hru, hlu, hB⟩
        obtain ⟨Lu, huu⟩ : ∃ L, L = uptoL (x) := ⟨_, rfl⟩
        rw [← huu] at hru hlu ⊢
        have HRu := Lib.hid hru
        have HCu := Lib.hid hlu
        have HTu := Lib.hid (show rightB (-1) Lu = true by rw [huu]; exact upto_right _)
        have HHu := Lib.hid huu
        clear hru hlu huu
        replace HRX := Lib.hid (HRX.out.keep (Nat.le_refl _) hB)
        replace HB := Lib.hid (bthen HB.out (hB))
        clear hB
        go_wp2_with fail
        refine (and_any AX Au X.length cX Lu.length cu X Lu _ HRX.out HRu.out rfl rfl HCX.out HCu.out HTX.out HTu.out).mono ?_
        rintro e w62 ⟨Lb, Ab, cb, rfl, hrb, hlb, hgb, hhb, hB⟩
        have HRb := Lib.hid hrb
        have HCb := Lib.hid hlb
        have HTb := Lib.hid hgb
        have HHb := Lib.hid hhb
        clear hrb hlb hgb hhb
        replace HRX := Lib.hid (HRX.out.keep (Nat.le_refl _) hB)
        replace HRu := Lib.hid (HRu.out.keep (Nat.le_refl _) hB)
        replace HB := Lib.hid (bthen HB.out (hB))
        clear hB
        have HRB := Lib.hid (show rankZ 65536 Lb = R2 by rw [← HR2.out]; exact rank_cut HTb.out HTX.out (fun z => by rw [HHb.out, HHu.out]))
        go_wp2_with fail
        refine (alive_any _).mono ?_
        rintro e w63 ⟨rfl, hB⟩
        replace HRX := Lib.hid (HRX.out.keep (Nat.le_refl _) hB)
        replace HRu := Lib.hid (HRu.out.keep (Nat.le_refl _) hB)
        replace HRb := Lib.hid (HRb.out.keep (Nat.le_refl _) hB)
        replace HB := Lib.hid (bthen HB.out (hB))
        clear hB
        go_wp2_with fail
        refine (rank_any AX X.length cX x X _ HRX.out rfl (by have := HX3.out; omega) HTX.out).mono ?_
        rintro e w64 ⟨rfl, hB⟩
        rw [HR2.out]
        replace HRX := Lib.hid (HRX.out.keep (Nat.le_refl _) hB)
        replace HRu := Lib.hid (HRu.out.keep (Nat.le_refl _) hB)
        replace HRb := Lib.hid (HRb.out.keep (Nat.le_refl _) hB)
        replace HB := Lib.hid (bthen HB.out (hB))
        clear hB
        go_wp2_with fail
        refine (count_any Ab Lb.length cb Lb _ HRb.out rfl (by have := right_length HTb.out; omega) HTb.out).mono ?_
        rintro e w65 ⟨rfl, hB⟩
        rw [HRB.out]
        replace HRX := Lib.hid (HRX.out.keep (Nat.le_refl _) hB)
        replace HRu := Lib.hid (HRu.out.keep (Nat.le_refl _) hB)
        replace HRb := Lib.hid (HRb.out.keep (Nat.le_refl _) hB)
        replace HB := Lib.hid (bthen HB.out (hB))
        clear hB
        go_wp2_with fail
        refine (has_any AX X.length cX x X _ HRX.out rfl (by have := HX3.out; omega)).mono ?_
        rintro e w66 ⟨rfl, hB⟩
        rw [HB0.out]
        replace HRX := Lib.hid (HRX.out.keep (Nat.le_refl _) hB)
        replace HRu := Lib.hid (HRu.out.keep (Nat.le_refl _) hB)
        replace HRb := Lib.hid (HRb.out.keep (Nat.le_refl _) hB)
        replace HB := Lib.hid (bthen HB.out (hB))
        clear hB
        go_wp2_with fail
        refine (rank_any AX X.length cX 65537 X _ HRX.out rfl (by have := HX3.out; omega) HTX.out).mono ?_
        rintro e w67 ⟨rfl, hB⟩
        rw [HR1.out]
        replace HRX := Lib.hid (HRX.out.keep (Nat.le_refl _) hB)
        replace HRu := Lib.hid (HRu.out.keep (Nat.le_refl _) hB)
        replace HRb := Lib.hid (HRb.out.keep (Nat.le_refl _) hB)
        replace HB := Lib.hid (bthen HB.out (hB))
        clear hB
        go_wp2_with fail
        refine (rank_any AX X.length cX x X _ HRX.out rfl (by have := HX3.out; omega) HTX.out).mono ?_
        rintro e w68 ⟨rfl, hB⟩
        rw [HR2.out]
        replace HRX := Lib.hid (HRX.out.keep (Nat.le_refl _) hB)
        replace HRu := Lib.hid (HRu.out.keep (Nat.le_refl _) hB)
        replace HRb := Lib.hid (HRb.out.keep (Nat.le_refl _) hB)
        replace HB := Lib.hid (bthen HB.out (hB))
        clear hB
        have hrr := HRR.out
        cases B0 with
        | false =>
          by_cases hx0 : 0 ≤ x
          · by_cases hx6 : x < 65536
            · go_wp2_with fail
              go_ret
              exact ⟨rfl, HB.out⟩
            · go_wp2_with fail
              go_ret
              exact ⟨rfl, HB.out⟩
          · go_wp2_with fail
            go_ret
            exact ⟨rfl, HB.out⟩
        | true =>
          have hbr := HBR.out rfl
          obtain ⟨hx0, hx6⟩ := hbr
          go_wp2_with fail
          go_ret
          exact ⟨rfl, HB.out⟩
  · have HOX := Lib.hid (show okB X = false by cases hb : okB X with | true => exact absurd ((okB_iff X).1 hb) hX | false => rfl)
    clear hX
    go_enter Try.func7, Try.ntmps7
    go_wp2_with fail
    refine (fits_any AX X.length cX X _ HRX.out rfl).mono ?_
    rintro e w69 ⟨rfl, hB⟩
    rw [HOX.out]
    replace HRX := Lib.hid (HRX.out.keep (Nat.le_refl _) hB)
    replace HB := Lib.hid (bthen HB.out (hB))
    clear hB
    go_wp2_with fail
    refine (alive_any _).mono ?_
    rintro e w70 ⟨rfl, hB⟩
    replace HRX := Lib.hid (HRX.out.keep (Nat.le_refl _) hB)
    replace HB := Lib.hid (bthen HB.out (hB))
    clear hB
    go_wp2_with fail
    go_ret
    exact ⟨rfl, HB.out⟩
end Go.Proofs.Ytohdkidfhohmlaa
