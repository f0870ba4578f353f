/- What lists of rows are gone through. -/
import Derived.Test.YtkfcpmmiimpkbaaRM
namespace Go.Proofs.Ytkfcpmmiimpkbaa
open Go.RowKit
set_option linter.unusedSimpArgs false
set_option linter.unusedVariables false
/-- What the cells lead to is the row; of its lists' sizes nothing but that they are numbers. -/
structure Good0 (w : World) (z : RZ) : Prop where
  rd : Row w z.1.D (texts z.2.dims)
  nd : z.1.n = z.2.dims.length
  cd : z.1.n ≤ z.1.c
  ad : z.1.D = none → z.1.c = 0
  sd : z.1.n ≤ 9223372036854775807
  rg : Row w z.1.G (cellsG z.2.aggs)
  ng : z.1.gn = z.2.aggs.length
  cg : z.1.gn ≤ z.1.gc
  ag : z.1.G = none → z.1.gc = 0
  sg : z.1.gn ≤ 9223372036854775807
theorem Good0.keep {w w' : World} {z : RZ} (h : Good0 w z) (hb : Below w.heap.size w w') : Good0 w' z :=
  { h with rd := h.rd.keep (Nat.le_refl _) hb, rg := h.rg.keep (Nat.le_refl _) hb }
theorem Good0.good {w : World} {z : RZ} (h : Good0 w z) (h1 : z.2.dims.length ≤ 1000000) (h2 : z.2.aggs.length ≤ 1000000) : Good w z :=
  { h with sd := by have := h.nd; omega, sg := by have := h.ng; omega }
theorem rowsM0 {w : World} {A : Option Addr} {Z : List RZ} (h : Row w A (cellsR Z)) (hg0 : ∀ z ∈ Z, Good0 w z) : RowsM w A (Z.map Prod.snd) := by
  rcases Nat.eq_zero_or_pos Z.length with h0 | h0
  · exact .inl (by rw [List.eq_nil_of_length_eq_zero h0]; rfl)
  · obtain ⟨b, off, e, _⟩ := row4 h h0
    refine .inr ⟨b, off, e, fun i hi => ?_⟩
    have hi' : i < Z.length := by simpa using hi
    obtain ⟨b', off', e', c0, c1, c2, c3⟩ := row4 h hi'
    rw [e] at e'; cases e'
    have hg := hg0 _ (List.getElem_mem hi')
    have q : (Z.map Prod.snd)[i] = Z[i].2 := by simp
    rw [q]
    exact ⟨_, _, _, _, _, _, c0, c1, c2, c3, hg.rd, hg.nd, hg.sd, hg.rg, hg.ng, hg.sg⟩
/-- Rows such as are gone through. -/
def fitsRows (L M : List ByteArray) (Z : List RV) : Prop := fitsP L ∧ fitsP M ∧ Z.length ≤ 120 ∧ rightP L M ∧ ∀ z ∈ Z, rowOk L.length M.length z.t z.count z.dims z.aggs
set_option maxRecDepth 100000 in
set_option maxHeartbeats 16000000 in
theorem fitsrows_any (A B C : Option Addr) (n c m d k cap : Nat) (L M : List ByteArray) (Z : List RZ) (w : World) (hA : Row w A (texts L)) (hB : Row w B (texts M)) (hC : Row w C (cellsR Z)) (hgd : ∀ z ∈ Z, Good0 w z) (hn : n = L.length) (hm : m = M.length) (hk : k = Z.length) (hnc : n ≤ c) (hmd : m ≤ d) (ha : A = none → c = 0) (hb : B = none → d = 0)
    (hL : ∀ s ∈ L, s.size ≤ 9223372036854775807) (hM : ∀ s ∈ M, s.size ≤ 9223372036854775807) (hn2 : n ≤ 9223372036854775807) (hm2 : m ≤ 9223372036854775807) (hk2 : k ≤ 9223372036854775807) (hsz : ∀ z ∈ Z, ∀ s ∈ z.2.dims, s.size ≤ 9223372036854775807) (r : Bool) (hr : r = true ↔ fitsRows L M (Z.map Prod.snd)) :
    Calls Try.prog 6 #[.agg #[.slice A n c, .slice B m d], .slice C k cap] w fun e w' => e = .returned (.bool r) ∧ Below w.heap.size w w' := by
  obtain ⟨W1, hW1⟩ : ∃ W1, W1 = w.alloc (.cells #[.slice A n c, .slice B m d] 24) := ⟨_, rfl⟩
  have hb1 : Below w.heap.size w W1 := by rw [hW1]; exact bpush (Below.refl _ _) _
  have HB1 := Lib.hid hb1
  have HA := Lib.hid (hA.keep (Nat.le_refl _) hb1)
  have HB := Lib.hid (hB.keep (Nat.le_refl _) hb1)
  have HC := Lib.hid (hC.keep (Nat.le_refl _) hb1)
  have HGD := Lib.hid (fun z hz => (hgd z hz).keep hb1)
  have s0 : W1.cell? ⟨w.heap.size, 0, none⟩ = some (.slice A n c) := by rw [hW1]; exact cell_made rfl rfl
  have s1 : W1.cell? ⟨w.heap.size, 1, none⟩ = some (.slice B m d) := by rw [hW1]; exact cell_made rfl rfl
  have HW1 := Lib.hid hW1
  have HN := Lib.hid hn
  have HM := Lib.hid hm
  have HK := Lib.hid hk
  have HNC := Lib.hid hnc
  have HMD := Lib.hid hmd
  have HAA := Lib.hid ha
  have HBB := Lib.hid hb
  have HL := Lib.hid hL
  have HLM := Lib.hid hM
  have HSZ := Lib.hid hsz
  have HR := Lib.hid hr
  obtain ⟨p, hp⟩ := bool_of (fitsP L)
  obtain ⟨q, hq⟩ := bool_of (fitsP M)
  have HP := Lib.hid hp
  have HQ := Lib.hid hq
  clear hA hB hC hgd hn hm hk hnc hmd ha hb hL hM hsz hr hp hq hW1 hb1
  go_enter Try.func6, Try.ntmps6
  go_wp2_with fail
  rw [← HW1.out]
  clear HW1
  go_at_call 7
  refine (fits_any A n c L W1 HA.out HN.out hn2 p HP.out).mono ?_
  rintro e w1 ⟨rfl, rfl⟩
  go_wp2_with fail
  go_at_call 7
  refine (fits_any B m d M W1 HB.out HM.out hm2 q HQ.out).mono ?_
  rintro e w1 ⟨rfl, rfl⟩
  cases p with
  | false =>
    obtain rfl : r = false := by
      cases r; rfl
      exact absurd (HP.out.2 (HR.out.1 rfl).1) (by simp)
    go_wp2_with fail
    go_ret
    exact ⟨rfl, HB1.out⟩
  | true =>
  cases q with
  | false =>
    obtain rfl : r = false := by
      cases r; rfl
      exact absurd (HQ.out.2 (HR.out.1 rfl).2.1) (by simp)
    go_wp2_with fail
    go_ret
    exact ⟨rfl, HB1.out⟩
  | true =>
  have HPL := Lib.hid (HP.out.1 rfl)
  have HQL := Lib.hid (HQ.out.1 rfl)
  by_cases h120 : k ≤ 120
  case neg =>
    have hgt : (120 : Int) < (k : Int) := by omega
    obtain rfl : r = false := by
      cases r; rfl
      exact absurd (HR.out.1 rfl).2.2.1 (by rw [List.length_map, ← HK.out]; exact h120)
    clear h120
    go_wp2_with fail
    go_ret
    exact ⟨rfl, HB1.out⟩
  case pos =>
  have hgt : ¬ (120 : Int) < (k : Int) := by omega
  have hn20 : n ≤ 20 := by have := HPL.out.1; have := HN.out; omega
  have hm20 : m ≤ 20 := by have := HQL.out.1; have := HM.out; omega
  obtain ⟨g, hg⟩ := bool_of (rightP L M)
  have HG := Lib.hid hg
  have HRG := Lib.hid (refright_any A B n c m d L M W1 HA.out HB.out HN.out HM.out HNC.out HMD.out HAA.out HBB.out HL.out HLM.out hn20 (by omega) g hg)
  clear hg
  go_wp2_with fail
  go_at_call 19
  refine HRG.out.mono ?_
  clear HRG
  intro e w2 h
  obtain ⟨he, hb2⟩ := h
  subst he
  have s0 := cell_on hb2 s0
  have s1 := cell_on hb2 s1
  have HC := Lib.hid (HC.out.keep (Nat.le_refl _) hb2)
  have HGD := Lib.hid (fun z hz => (HGD.out z hz).keep hb2)
  have HBT := Lib.hid (bthen HB1.out hb2)
  clear hb2
  cases g with
  | false =>
    obtain rfl : r = false := by
      cases r; rfl
      exact absurd (HG.out.2 (HR.out.1 rfl).2.2.2.1) (by simp)
    go_wp2_with fail
    go_ret
    exact ⟨rfl, HBT.out⟩
  | true =>
  have HRR := Lib.hid (show r = true ↔ ∀ i (h : i < Z.length), rowOk n m Z[i].2.t Z[i].2.count Z[i].2.dims Z[i].2.aggs from by
    have hN : n = L.length := HN.out
    have hM : m = M.length := HM.out
    rw [HR.out]
    constructor
    · intro h i hi
      have := h.2.2.2.2 Z[i].2 (List.mem_map.2 ⟨_, List.getElem_mem hi, rfl⟩)
      rw [hN, hM]; exact this
    · intro h
      refine ⟨HPL.out, HQL.out, by rw [List.length_map, ← HK.out]; exact h120, HG.out.1 (by first | rfl | trivial), fun z hz => ?_⟩
      obtain ⟨y, hy, rfl⟩ := List.mem_map.1 hz
      obtain ⟨i, hi, rfl⟩ := List.mem_iff_getElem.1 hy
      rw [← hN, ← hM]; exact h i hi)
  clear h120
  go_wp2_with fail
  go_loopw [7, 8] (fun i q8 wr => ∃ k0 : Nat, i = .int .i64 (k0 : Int) ∧ k0 ≤ k ∧ Hid (∀ i (h : i < Z.length), i < k0 → rowOk n m Z[i].2.t Z[i].2.count Z[i].2.dims Z[i].2.aggs) ∧ Hid (Below w2.heap.size w2 wr)) (fun i _ _ => k - (intOf i).toNat)
  case atStart => exact ⟨0, rfl, by omega, Lib.hid (fun i _ h => absurd h (by omega)), Lib.hid (Below.refl _ _)⟩
  case round =>
    obtain ⟨k0, rfl, hk, HE, HBW⟩ := hrel
    by_cases hlt : k0 < k
    case neg =>
      have hki : ¬ (k0 : Int) < (k : Int) := by omega
      obtain rfl : r = true := HRR.out.2 fun i h => HE.out i h (by have := HK.out; omega)
      clear hlt
      go_wp2_with fail
      go_ret
      exact ⟨rfl, bthen HBT.out HBW.out⟩
    case pos =>
    have hki : (k0 : Int) < (k : Int) := by omega
    have hk00 : (0 : Int) ≤ (k0 : Int) := by omega
    have hkL : k0 < Z.length := by have := HK.out; omega
    have hrc := HC.out.keep (Nat.le_refl _) HBW.out
    obtain ⟨b1, o1, rfl, p0, p1, p2, p3⟩ := row4 hrc hkL
    have gd := (HGD.out _ (List.getElem_mem hkL)).keep HBW.out
    have hs1 := HSZ.out _ (List.getElem_mem hkL)
    obtain ⟨⟨⟨D1, n1, c1, G1, gn1, gc1⟩, ⟨t1, L1, u1, X1⟩⟩, hz1⟩ : ∃ z, z = Z[k0] := ⟨_, rfl⟩
    rw [← hz1] at p0 p1 p2 p3 gd hs1
    simp only at p0 p1 p2 p3 hs1
    have s0 := cell_on HBW.out s0
    have s1 := cell_on HBW.out s1
    obtain ⟨v, hv⟩ := bool_of (rowOk n m t1 u1 L1 X1)
    have HV := Lib.hid (show v = true ↔ rowOk n m Z[k0].2.t Z[k0].2.count Z[k0].2.dims Z[k0].2.aggs by rw [← hz1]; exact hv)
    have HRC := Lib.hid (show ∀ W, Below wr.heap.size wr W → Calls Try.prog 20 #[.agg #[.slice A n c, .slice B m d], .agg #[.int .i64 t1, .slice D1 n1 c1, .int .i64 u1, .slice G1 gn1 gc1]] W fun e w' => e = .returned (.bool v) ∧ Below W.heap.size W w' from fun W hW =>
      refrowright_any t1 u1 A B D1 G1 n m c d n1 c1 gn1 gc1 L1 X1 W (gd.rd.keep (Nat.le_refl _) hW) (gd.rg.keep (Nat.le_refl _) hW) gd.nd gd.ng gd.sd gd.sg hs1 v hv)
    clear hz1 gd hs1 hrc hv hlt
    go_wp2_with fail
    refine wp_region_held_drew (S := fun w' => Below wr.heap.size wr w') (by kernel_rfl) (below_drewN (Below.refl _ _) 1) ?_
    intro hHeld
    refine take_want (i := 0) (v := ?v0k1) rfl (by kernel_rfl) (by kernel_rfl) (by kernel_rfl) (fun _ _ _ h => h) (by rfl) ?y0k1 (by assumption) ?r0k1
    case y0k1 => (intro w hSw; have q0 := cell_on hSw s0; have q1 := cell_on hSw s1; have m1 := cell_on hSw p0; have m2 := cell_on hSw p1; have m3 := cell_on hSw p2; have m4 := cell_on hSw p3; go_simp; all_goals with_reducible rfl)
    (try simp only [Act.put, List.setIfInBounds_toArray, List.set_cons_zero, List.set_cons_succ])
    refine take_want (i := 1) (v := ?v1k1) rfl (by kernel_rfl) (by kernel_rfl) (by kernel_rfl) (fun _ _ _ h => h) (by rfl) ?y1k1 (by assumption) ?r1k1
    case y1k1 => (intro w hSw; go_simp; all_goals with_reducible rfl)
    (try simp only [Act.put, List.setIfInBounds_toArray, List.set_cons_zero, List.set_cons_succ])
    refine take_want (i := 2) (v := ?v2k1) rfl (by kernel_rfl) (by kernel_rfl) (by kernel_rfl) (fun _ _ _ h => h) (by rfl) ?y2k1 (by assumption) ?r2k1
    case y2k1 => (intro w hSw; go_simp; all_goals with_reducible rfl)
    (try simp only [Act.put, List.setIfInBounds_toArray, List.set_cons_zero, List.set_cons_succ])
    refine take_want (i := 3) (v := ?v3k1) rfl (by kernel_rfl) (by kernel_rfl) (by kernel_rfl) (fun _ _ _ h => h) (by rfl) ?y3k1 (by assumption) ?r3k1
    case y3k1 => (intro w hSw; go_simp; all_goals with_reducible rfl)
    (try simp only [Act.put, List.setIfInBounds_toArray, List.set_cons_zero, List.set_cons_succ])
    refine take_want (i := 4) (v := ?v4k1) rfl (by kernel_rfl) (by kernel_rfl) (by kernel_rfl) (fun _ _ _ h => h) (by rfl) ?y4k1 (by assumption) ?r4k1
    case y4k1 => (intro w hSw; have q0 := cell_on hSw s0; have q1 := cell_on hSw s1; have m1 := cell_on hSw p0; have m2 := cell_on hSw p1; have m3 := cell_on hSw p2; have m4 := cell_on hSw p3; go_simp; all_goals with_reducible rfl)
    (try simp only [Act.put, List.setIfInBounds_toArray, List.set_cons_zero, List.set_cons_succ])
    refine wpAnyH_ready (rs := [5]) (by kernel_rfl) (by simp) ?_
    refine AllReadyH.cons rfl (fun K hK => ?_) AllReadyH.nil
    go_simp
    (go_at_call 20; refine (HRC.out _ hHeld).mono ?_; rintro e w7 ⟨rfl, hb⟩)
    refine hK.out _ _ (bthen hHeld hb) (fun hHeld => ?_)
    clear hK K
    (try simp only [Act.put, List.setIfInBounds_toArray, List.set_cons_zero, List.set_cons_succ])
    refine take_want (i := 6) (v := ?v6k1) rfl (by kernel_rfl) (by kernel_rfl) (by kernel_rfl) (fun _ _ _ h => h) (by rfl) ?y6k1 (by assumption) ?r6k1
    case y6k1 => (intro w hSw; go_simp; all_goals with_reducible rfl)
    (try simp only [Act.put, List.setIfInBounds_toArray, List.set_cons_zero, List.set_cons_succ])
    refine wpAnyH_done (by kernel_rfl) ?_ _
    have HBB := Lib.hid (HBW.out.trans (hHeld.mono HBW.out.size))
    clear HRC
    cases v with
    | true =>
      have HE2 := Lib.hid (show ∀ i (h : i < Z.length), i < k0 + 1 → rowOk n m Z[i].2.t Z[i].2.count Z[i].2.dims Z[i].2.aggs from fun i h hi => by
        by_cases e : i = k0
        · subst e; exact HV.out.1 rfl
        · exact HE.out i h (by omega))
      go_wp2_with fail
      go_roundw
      case rel => exact ⟨k0 + 1, by go_num, by omega, HE2, HBB⟩
      case measure => simp [intOf] <;> omega
    | false =>
      have HNE := Lib.hid (show r = false by
        cases r; rfl
        exact absurd (HV.out.2 (HRR.out.1 rfl k0 hkL)) (by simp))
      go_wp2_with fail
      go_ret
      exact ⟨by rw [HNE.out]; rfl, bthen HBT.out HBB.out⟩
end Go.Proofs.Ytkfcpmmiimpkbaa
