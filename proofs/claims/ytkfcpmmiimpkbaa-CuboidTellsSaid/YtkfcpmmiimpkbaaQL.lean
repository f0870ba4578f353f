/- Lists of rows; are two one (the document's). -/
import Derived.Test.YtkfcpmmiimpkbaaQK
namespace Go.Proofs.Ytkfcpmmiimpkbaa
open Go.RowKit
set_option linter.unusedSimpArgs false
set_option linter.unusedVariables false
/-- What a row holds. -/
structure RV where
  t : Int
  dims : List ByteArray
  count : Int
  aggs : List Ag
theorem RV.one {a b : RV} : a = b ↔ (a.dims = b.dims ∧ a.t = b.t) ∧ a.aggs = b.aggs ∧ a.count = b.count := by
  cases a; cases b; simp only [RV.mk.injEq]; constructor
  · rintro ⟨h1, h2, h3, h4⟩; exact ⟨⟨h2, h1⟩, h4, h3⟩
  · rintro ⟨⟨h2, h1⟩, h4, h3⟩; exact ⟨h1, h2, h3, h4⟩
/-- A row's four cells, and what they lead to. -/
def OneRow (w : World) (b off : Nat) (r : RV) : Prop :=
  ∃ D n c G gn gc, w.cell? ⟨b, off, none⟩ = some (.int .i64 r.t) ∧ w.cell? ⟨b, off + 1, none⟩ = some (.slice D n c) ∧ w.cell? ⟨b, off + 2, none⟩ = some (.int .i64 r.count) ∧ w.cell? ⟨b, off + 3, none⟩ = some (.slice G gn gc) ∧
    Row w D (texts r.dims) ∧ n = r.dims.length ∧ n ≤ 9223372036854775807 ∧ Row w G (cellsG r.aggs) ∧ gn = r.aggs.length ∧ gn ≤ 9223372036854775807
theorem OneRow.keep {w w' : World} {b off : Nat} {r : RV} (h : OneRow w b off r) (hb : Below w.heap.size w w') : OneRow w' b off r := by
  obtain ⟨D, n, c, G, gn, gc, h0, h1, h2, h3, h4, h5, h6, h7, h8, h9⟩ := h
  exact ⟨D, n, c, G, gn, gc, cell_on hb h0, cell_on hb h1, cell_on hb h2, cell_on hb h3, h4.keep (Nat.le_refl _) hb, h5, h6, h7.keep (Nat.le_refl _) hb, h8, h9⟩
/-- A slice of rows. -/
def RowsM (w : World) (A : Option Addr) (K : List RV) : Prop :=
  K = [] ∨ ∃ b off, A = some ⟨b, off, none⟩ ∧ ∀ i (h : i < K.length), OneRow w b (off + i * 4) K[i]
theorem RowsM.keep {w w' : World} {A : Option Addr} {K : List RV} (h : RowsM w A K) (hb : Below w.heap.size w w') : RowsM w' A K := by
  rcases h with h | ⟨b, off, rfl, hc⟩
  · exact .inl h
  · exact .inr ⟨b, off, rfl, fun i hi => (hc i hi).keep hb⟩
theorem RowsM.get {w : World} {A : Option Addr} {K : List RV} {k : Nat} (h : RowsM w A K) (hk : k < K.length) : ∃ b off, A = some ⟨b, off, none⟩ ∧ OneRow w b (off + k * 4) K[k] := by
  rcases h with rfl | ⟨b, off, rfl, hc⟩
  · simp at hk
  · exact ⟨b, off, rfl, hc k hk⟩
set_option maxRecDepth 100000 in
set_option maxHeartbeats 8000000 in
theorem refrows_any (A B : Option Addr) (n c m d : Nat) (K L : List RV) (w : World) (hA : RowsM w A K) (hB : RowsM w B L) (hn : n = K.length) (hm : m = L.length) (hn2 : n ≤ 9223372036854775807) (hm2 : m ≤ 9223372036854775807) (r : Bool) (hr : r = true ↔ K = L) :
    Calls Try.prog 14 #[.slice A n c, .slice B m d] w fun e w' => e = .returned (.bool r) ∧ Below w.heap.size w w' := by
  have HA := Lib.hid hA
  have HB := Lib.hid hB
  have HN := Lib.hid hn
  have HM := Lib.hid hm
  have HR := Lib.hid hr
  clear hA hB hn hm hr
  by_cases hnm : n = m
  case neg =>
    obtain rfl : r = false := by
      cases r; rfl
      exact absurd (by rw [HN.out, HM.out, HR.out.1 rfl]) hnm
    have q1 : ((n : Int) == (m : Int)) = false := by rw [beq_eq_false_iff_ne]; omega
    have q2 : ((n : Int) != (m : Int)) = true := by rw [bne, q1]; rfl
    clear hnm
    go_enter Try.func14, Try.ntmps14
    go_wp2_with fail
    go_ret
    exact ⟨rfl, Below.refl _ _⟩
  case pos =>
  subst hnm
  go_enter Try.func14, Try.ntmps14
  go_wp2_with fail
  go_loopw [5, 6] (fun i o wr => ∃ k : Nat, i = .int .i64 (k : Int) ∧ k ≤ n ∧ Hid (K.take k = L.take k) ∧ Hid (Below w.heap.size w wr)) (fun i _ _ => n - (intOf i).toNat)
  case atStart => exact ⟨0, rfl, by omega, Lib.hid rfl, Lib.hid (Below.refl _ _)⟩
  case round =>
    obtain ⟨k, rfl, hk, HE, HBW⟩ := hrel
    by_cases hlt : k < n
    case neg =>
      have hki : ¬ (k : Int) < (n : Int) := by omega
      obtain rfl : r = true := HR.out.2 (by
        have h := HE.out
        rwa [List.take_of_length_le (by have := HN.out; omega), List.take_of_length_le (by have := HM.out; omega)] at h)
      clear hlt
      go_wp2_with fail
      go_ret
      exact ⟨rfl, HBW.out⟩
    case pos =>
    have hki : (k : Int) < (n : Int) := by omega
    have hk0 : (0 : Int) ≤ (k : Int) := by omega
    have hkL : k < K.length := by have := HN.out; omega
    have hkM : k < L.length := by have := HM.out; omega
    obtain ⟨b1, o1, rfl, R1⟩ := (HA.out.keep HBW.out).get hkL
    obtain ⟨b2, o2, rfl, R2⟩ := (HB.out.keep HBW.out).get hkM
    obtain ⟨D1, n1, c1, G1, gn1, gc1, x0, x1, x2, x3, x4, x5, x6, x7, x8, x9⟩ := R1
    obtain ⟨D2, n2, c2, G2, gn2, gc2, y0, y1, y2, y3, y4, y5, y6, y7, y8, y9⟩ := R2
    obtain ⟨⟨t1, L1, k1, g1⟩, ht⟩ : ∃ t, t = K[k] := ⟨_, rfl⟩
    obtain ⟨⟨t2, L2, k2, g2⟩, hs⟩ : ∃ t, t = L[k] := ⟨_, rfl⟩
    rw [← ht] at x0 x2 x4 x5 x7 x8
    rw [← hs] at y0 y2 y4 y5 y7 y8
    simp only at x0 x2 x4 x5 x7 x8 y0 y2 y4 y5 y7 y8
    have X4 := Lib.hid x4
    have Y4 := Lib.hid y4
    have X5 := Lib.hid x5
    have Y5 := Lib.hid y5
    have X7 := Lib.hid x7
    have Y7 := Lib.hid y7
    have X8 := Lib.hid x8
    have Y8 := Lib.hid y8
    obtain ⟨p, hp⟩ : ∃ p : Bool, p = true ↔ (L1 = L2 ∧ t1 = t2) ∧ g1 = g2 ∧ k1 = k2 := ⟨decide ((L1 = L2 ∧ t1 = t2) ∧ g1 = g2 ∧ k1 = k2), by simp⟩
    have HP := Lib.hid hp
    have HTS := Lib.hid (show p = true ↔ K[k] = L[k] by rw [← ht, ← hs, RV.one]; exact hp)
    clear ht hs hlt hp x4 y4 x5 y5 x7 y7 x8 y8
    go_wp2_with fail
    refine wp_region_held_drew (S := fun w' => Below wr.heap.size wr w') (by kernel_rfl) (below_drewN (Below.refl _ _) 1) ?_
    intro hHeld
    refine take_want (i := 0) (v := ?v0k1) rfl (by kernel_rfl) (by kernel_rfl) (by kernel_rfl) (fun _ _ _ h => h) (by rfl) ?y0k1 (by assumption) ?r0k1
    case y0k1 => (intro w hSw; go_simp; all_goals with_reducible rfl)
    (try simp only [Act.put, List.setIfInBounds_toArray, List.set_cons_zero, List.set_cons_succ])
    refine take_want (i := 1) (v := ?v1k1) rfl (by kernel_rfl) (by kernel_rfl) (by kernel_rfl) (fun _ _ _ h => h) (by rfl) ?y1k1 (by assumption) ?r1k1
    case y1k1 => (intro w hSw; go_simp; all_goals with_reducible rfl)
    (try simp only [Act.put, List.setIfInBounds_toArray, List.set_cons_zero, List.set_cons_succ])
    refine take_want (i := 2) (v := ?v2k1) rfl (by kernel_rfl) (by kernel_rfl) (by kernel_rfl) (fun _ _ _ h => h) (by rfl) ?y2k1 (by assumption) ?r2k1
    case y2k1 => (intro w hSw; go_simp; all_goals with_reducible rfl)
    (try simp only [Act.put, List.setIfInBounds_toArray, List.set_cons_zero, List.set_cons_succ])
    refine take_want (i := 3) (v := ?v3k1) rfl (by kernel_rfl) (by kernel_rfl) (by kernel_rfl) (fun _ _ _ h => h) (by rfl) ?y3k1 (by assumption) ?r3k1
    case y3k1 => (intro w hSw; have q0 := cell_on hSw x0; have q1 := cell_on hSw x1; have q2 := cell_on hSw x2; have q3 := cell_on hSw x3; go_simp; all_goals with_reducible rfl)
    (try simp only [Act.put, List.setIfInBounds_toArray, List.set_cons_zero, List.set_cons_succ])
    refine take_want (i := 4) (v := ?v4k1) rfl (by kernel_rfl) (by kernel_rfl) (by kernel_rfl) (fun _ _ _ h => h) (by rfl) ?y4k1 (by assumption) ?r4k1
    case y4k1 => (intro w hSw; go_simp; all_goals with_reducible rfl)
    (try simp only [Act.put, List.setIfInBounds_toArray, List.set_cons_zero, List.set_cons_succ])
    refine take_want (i := 5) (v := ?v5k1) rfl (by kernel_rfl) (by kernel_rfl) (by kernel_rfl) (fun _ _ _ h => h) (by rfl) ?y5k1 (by assumption) ?r5k1
    case y5k1 => (intro w hSw; go_simp; all_goals with_reducible rfl)
    (try simp only [Act.put, List.setIfInBounds_toArray, List.set_cons_zero, List.set_cons_succ])
    refine take_want (i := 6) (v := ?v6k1) rfl (by kernel_rfl) (by kernel_rfl) (by kernel_rfl) (fun _ _ _ h => h) (by rfl) ?y6k1 (by assumption) ?r6k1
    case y6k1 => (intro w hSw; go_simp; all_goals with_reducible rfl)
    (try simp only [Act.put, List.setIfInBounds_toArray, List.set_cons_zero, List.set_cons_succ])
    refine take_want (i := 7) (v := ?v7k1) rfl (by kernel_rfl) (by kernel_rfl) (by kernel_rfl) (fun _ _ _ h => h) (by rfl) ?y7k1 (by assumption) ?r7k1
    case y7k1 => (intro w hSw; have q0 := cell_on hSw y0; have q1 := cell_on hSw y1; have q2 := cell_on hSw y2; have q3 := cell_on hSw y3; go_simp; all_goals with_reducible rfl)
    (try simp only [Act.put, List.setIfInBounds_toArray, List.set_cons_zero, List.set_cons_succ])
    refine wpAnyH_ready (rs := [8]) (by kernel_rfl) (by simp) ?_
    refine AllReadyH.cons rfl (fun K hK => ?_) AllReadyH.nil
    go_simp
    (go_at_call 32; refine (refrow_any t1 t2 k1 k2 D1 D2 G1 G2 n1 c1 n2 c2 gn1 gc1 gn2 gc2 L1 L2 g1 g2 _ (X4.out.keep (Nat.le_refl _) hHeld) (Y4.out.keep (Nat.le_refl _) hHeld) (X7.out.keep (Nat.le_refl _) hHeld) (Y7.out.keep (Nat.le_refl _) hHeld) X5.out Y5.out X8.out Y8.out x6 y6 x9 y9 p HP.out).mono ?_; rintro e w7 ⟨rfl, hb⟩)
    refine hK.out _ _ (bthen hHeld hb) (fun hHeld => ?_)
    clear hK K
    (try simp only [Act.put, List.setIfInBounds_toArray, List.set_cons_zero, List.set_cons_succ])
    refine take_want (i := 9) (v := ?v9k1) rfl (by kernel_rfl) (by kernel_rfl) (by kernel_rfl) (fun _ _ _ h => h) (by rfl) ?y9k1 (by assumption) ?r9k1
    case y9k1 => (intro w hSw; go_simp; all_goals with_reducible rfl)
    (try simp only [Act.put, List.setIfInBounds_toArray, List.set_cons_zero, List.set_cons_succ])
    refine wpAnyH_done (by kernel_rfl) ?_ _
    have hb := hHeld
    have HBB := Lib.hid (HBW.out.trans (hb.mono HBW.out.size))
    clear hb
    cases p with
    | true =>
      have HE2 := Lib.hid (show K.take (k + 1) = L.take (k + 1) by rw [take_snoc K k hkL, take_snoc L k hkM, HE.out, HTS.out.1 rfl])
      go_wp2_with fail
      go_roundw
      case rel => exact ⟨k + 1, by go_num, by omega, HE2, HBB⟩
      case measure => simp [intOf]; omega
    | false =>
      have HNE := Lib.hid (show r = false by
        cases r; rfl
        have e := HR.out.1 rfl
        subst e
        exact absurd (HTS.out.2 rfl) (by simp))
      go_wp2_with fail
      go_ret
      exact ⟨by rw [HNE.out]; rfl, HBB.out⟩
end Go.Proofs.Ytkfcpmmiimpkbaa
