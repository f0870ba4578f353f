/- The live question. What lists of rows are gone through. Arguments that are rows, opened. An argument that is a list of rows. -/
import Derived.Test.YtbccjkjibffbkaaML
import Derived.Deep.Strs
import Derived.Deep.Slices
import Derived.ProofKit
import Derived.OpenShut
import Derived.ShutString
import Derived.Lib.SmallJoins
namespace Go.Proofs.Ytbccjkjibffbkaa
open Go.RowKit
set_option linter.unusedSimpArgs false
set_option linter.unusedVariables false
def rowX (s : ByteArray) (n : Int) : RV := ⟨4, [s], 1, [(n, n, n)]⟩
theorem folds_three : foldL [rowX ⟨#[]⟩ 0, rowX ⟨#[118]⟩ 7, rowX ⟨#[118]⟩ (-2)] = ([rowX ⟨#[]⟩ 0, ⟨4, [⟨#[118]⟩], 2, [(5, -2, 7)]⟩], 0) := by kernel_rfl
theorem sorts_three : SortsTo [rowX ⟨#[118]⟩ 7, rowX ⟨#[118]⟩ (-2), rowX ⟨#[]⟩ 0] [rowX ⟨#[]⟩ 0, rowX ⟨#[118]⟩ 7, rowX ⟨#[118]⟩ (-2)] := by
  have h1 : cmpV (rowX ⟨#[]⟩ 0) (rowX ⟨#[118]⟩ 7) = -1 := by decide +kernel
  have h2 : ∀ m n, cmpV (rowX ⟨#[118]⟩ m) (rowX ⟨#[118]⟩ n) = 0 := fun m n => cmpV_zero.2 ⟨rfl, rfl⟩
  have h3 : ∀ m, cmpV (rowX ⟨#[]⟩ 0) (rowX ⟨#[118]⟩ m) = -1 := fun m => (cmpV_right (h2 m 7) _).trans h1
  constructor
  · refine List.Pairwise.cons ?_ (List.Pairwise.cons ?_ (List.Pairwise.cons ?_ List.Pairwise.nil))
    · intro b hb
      simp only [List.mem_cons, List.not_mem_nil, or_false] at hb
      rcases hb with rfl | rfl <;> rw [h3] <;> decide
    · intro b hb
      rw [List.mem_singleton.1 hb, h2]; exact Int.le_refl _
    · intro b hb; cases hb
  · intro k
    simp only [List.filter_cons, List.filter_nil]
    by_cases e1 : keyV k (rowX ⟨#[]⟩ 0) = true
    · have e2 : ∀ m, keyV k (rowX ⟨#[118]⟩ m) = false := fun m => by
        rw [Bool.eq_false_iff, ne_eq, keyV_true, cmpV_left (keyV_true.1 e1), h3]; decide
      simp [e1, e2]
    · simp [e1]
end Go.Proofs.Ytbccjkjibffbkaa
namespace Go.Proofs.Ytbccjkjibffbkaa
open Go.RowKit
set_option linter.unusedSimpArgs false
set_option linter.unusedVariables false
/-- What the cells lead to is the row; of its lists' sizes nothing but that they are numbers. -/
structure Good0 (w : World) (z : RZ) : Prop where
  rd : Row w z.1.D (texts z.2.dims)
  nd : z.1.n = z.2.dims.length
  cd : z.1.n ≤ z.1.c
  ad : z.1.D = none → z.1.c = 0
  sd : z.1.n ≤ 9223372036854775807
  rg : Row w z.1.G (cellsG z.2.aggs)
  ng : z.1.gn = z.2.aggs.length
  cg : z.1.gn ≤ z.1.gc
  ag : z.1.G = none → z.1.gc = 0
  sg : z.1.gn ≤ 9223372036854775807
theorem Good0.keep {w w' : World} {z : RZ} (h : Good0 w z) (hb : Below w.heap.size w w') : Good0 w' z :=
  { h with rd := h.rd.keep (Nat.le_refl _) hb, rg := h.rg.keep (Nat.le_refl _) hb }
theorem Good0.good {w : World} {z : RZ} (h : Good0 w z) (h1 : z.2.dims.length ≤ 1000000) (h2 : z.2.aggs.length ≤ 1000000) : Good w z :=
  { h with sd := by have := h.nd; omega, sg := by have := h.ng; omega }
theorem rowsM0 {w : World} {A : Option Addr} {Z : List RZ} (h : Row w A (cellsR Z)) (hg0 : ∀ z ∈ Z, Good0 w z) : RowsM w A (Z.map Prod.snd) := by
  rcases Nat.eq_zero_or_pos Z.length with h0 | h0
  · exact .inl (by rw [List.eq_nil_of_length_eq_zero h0]; rfl)
  · obtain ⟨b, off, e, _⟩ := row4 h h0
    refine .inr ⟨b, off, e, fun i hi => ?_⟩
    have hi' : i < Z.length := by simpa using hi
    obtain ⟨b', off', e', c0, c1, c2, c3⟩ := row4 h hi'
    rw [e] at e'; cases e'
    have hg := hg0 _ (List.getElem_mem hi')
    have q : (Z.map Prod.snd)[i] = Z[i].2 := by simp
    rw [q]
    exact ⟨_, _, _, _, _, _, c0, c1, c2, c3, hg.rd, hg.nd, hg.sd, hg.rg, hg.ng, hg.sg⟩
/-- Rows such as are gone through. -/
def fitsRows (L M : List ByteArray) (Z : List RV) : Prop := fitsP L ∧ fitsP M ∧ Z.length ≤ 120 ∧ rightP L M ∧ ∀ z ∈ Z, rowOk L.length M.length z.t z.count z.dims z.aggs
set_option maxRecDepth 100000 in
set_option maxHeartbeats 16000000 in
theorem fitsrows_any (A B C : Option Addr) (n c m d k cap : Nat) (L M : List ByteArray) (Z : List RZ) (w : World) (hA : Row w A (texts L)) (hB : Row w B (texts M)) (hC : Row w C (cellsR Z)) (hgd : ∀ z ∈ Z, Good0 w z) (hn : n = L.length) (hm : m = M.length) (hk : k = Z.length) (hnc : n ≤ c) (hmd : m ≤ d) (ha : A = none → c = 0) (hb : B = none → d = 0)
    (hL : ∀ s ∈ L, s.size ≤ 9223372036854775807) (hM : ∀ s ∈ M, s.size ≤ 9223372036854775807) (hn2 : n ≤ 9223372036854775807) (hm2 : m ≤ 9223372036854775807) (hk2 : k ≤ 9223372036854775807) (hsz : ∀ z ∈ Z, ∀ s ∈ z.2.dims, s.size ≤ 9223372036854775807) (r : Bool) (hr : r = true ↔ fitsRows L M (Z.map Prod.snd)) :
    Calls Try.prog 15 #[.agg #[.slice A n c, .slice B m d], .slice C k cap] w fun e w' => e = .returned (.bool r) ∧ Below w.heap.size w w' := by
  obtain ⟨W1, hW1⟩ : ∃ W1, W1 = w.alloc (.cells #[.slice A n c, .slice B m d] 24) := ⟨_, rfl⟩
  have hb1 : Below w.heap.size w W1 := by rw [hW1]; exact bpush (Below.refl _ _) _
  have HB1 := Lib.hid hb1
  have HA := Lib.hid (hA.keep (Nat.le_refl _) hb1)
  have HB := Lib.hid (hB.keep (Nat.le_refl _) hb1)
  have HC := Lib.hid (hC.keep (Nat.le_refl _) hb1)
  have HGD := Lib.hid (fun z hz => (hgd z hz).keep hb1)
  have s0 : W1.cell? ⟨w.heap.size, 0, none⟩ = some (.slice A n c) := by rw [hW1]; exact cell_made rfl rfl
  have s1 : W1.cell? ⟨w.heap.size, 1, none⟩ = some (.slice B m d) := by rw [hW1]; exact cell_made rfl rfl
  have HW1 := Lib.hid hW1
  have HN := Lib.hid hn
  have HM := Lib.hid hm
  have HK := Lib.hid hk
  have HNC := Lib.hid hnc
  have HMD := Lib.hid hmd
  have HAA := Lib.hid ha
  have HBB := Lib.hid hb
  have HL := Lib.hid hL
  have HLM := Lib.hid hM
  have HSZ := Lib.hid hsz
  have HR := Lib.hid hr
  obtain ⟨p, hp⟩ := bool_of (fitsP L)
  obtain ⟨q, hq⟩ := bool_of (fitsP M)
  have HP := Lib.hid hp
  have HQ := Lib.hid hq
  clear hA hB hC hgd hn hm hk hnc hmd ha hb hL hM hsz hr hp hq hW1 hb1
  go_enter Try.func15, Try.ntmps15
  go_wp2_with fail
  rw [← HW1.out]
  clear HW1
  go_at_call 28
  refine (fits_any A n c L W1 HA.out HN.out hn2 p HP.out).mono ?_
  rintro e w1 ⟨rfl, rfl⟩
  go_wp2_with fail
  go_at_call 28
  refine (fits_any B m d M W1 HB.out HM.out hm2 q HQ.out).mono ?_
  rintro e w1 ⟨rfl, rfl⟩
  cases p with
  | false =>
    obtain rfl : r = false := by
      cases r; rfl
      exact absurd (HP.out.2 (HR.out.1 rfl).1) (by simp)
    go_wp2_with fail
    go_ret
    exact ⟨rfl, HB1.out⟩
  | true =>
  cases q with
  | false =>
    obtain rfl : r = false := by
      cases r; rfl
      exact absurd (HQ.out.2 (HR.out.1 rfl).2.1) (by simp)
    go_wp2_with fail
    go_ret
    exact ⟨rfl, HB1.out⟩
  | true =>
  have HPL := Lib.hid (HP.out.1 rfl)
  have HQL := Lib.hid (HQ.out.1 rfl)
  by_cases h120 : k ≤ 120
  case neg =>
    have hgt : (120 : Int) < (k : Int) := by omega
    obtain rfl : r = false := by
      cases r; rfl
      exact absurd (HR.out.1 rfl).2.2.1 (by rw [List.length_map, ← HK.out]; exact h120)
    clear h120
    go_wp2_with fail
    go_ret
    exact ⟨rfl, HB1.out⟩
  case pos =>
  have hgt : ¬ (120 : Int) < (k : Int) := by omega
  have hn20 : n ≤ 20 := by have := HPL.out.1; have := HN.out; omega
  have hm20 : m ≤ 20 := by have := HQL.out.1; have := HM.out; omega
  obtain ⟨g, hg⟩ := bool_of (rightP L M)
  have HG := Lib.hid hg
  have HRG := Lib.hid (refright_any A B n c m d L M W1 HA.out HB.out HN.out HM.out HNC.out HMD.out HAA.out HBB.out HL.out HLM.out hn20 (by omega) g hg)
  clear hg
  go_wp2_with fail
  go_at_call 29
  refine HRG.out.mono ?_
  clear HRG
  intro e w2 h
  obtain ⟨he, hb2⟩ := h
  subst he
  have s0 := cell_on hb2 s0
  have s1 := cell_on hb2 s1
  have HC := Lib.hid (HC.out.keep (Nat.le_refl _) hb2)
  have HGD := Lib.hid (fun z hz => (HGD.out z hz).keep hb2)
  have HBT := Lib.hid (bthen HB1.out hb2)
  clear hb2
  cases g with
  | false =>
    obtain rfl : r = false := by
      cases r; rfl
      exact absurd (HG.out.2 (HR.out.1 rfl).2.2.2.1) (by simp)
    go_wp2_with fail
    go_ret
    exact ⟨rfl, HBT.out⟩
  | true =>
  have HRR := Lib.hid (show r = true ↔ ∀ i (h : i < Z.length), rowOk n m Z[i].2.t Z[i].2.count Z[i].2.dims Z[i].2.aggs from by
    have hN : n = L.length := HN.out
    have hM : m = M.length := HM.out
    rw [HR.out]
    constructor
    · intro h i hi
      have := h.2.2.2.2 Z[i].2 (List.mem_map.2 ⟨_, List.getElem_mem hi, rfl⟩)
      rw [hN, hM]; exact this
    · intro h
      refine ⟨HPL.out, HQL.out, by rw [List.length_map, ← HK.out]; exact h120, HG.out.1 (by first | rfl | trivial), fun z hz => ?_⟩
      obtain ⟨y, hy, rfl⟩ := List.mem_map.1 hz
      obtain ⟨i, hi, rfl⟩ := List.mem_iff_getElem.1 hy
      rw [← hN, ← hM]; exact h i hi)
  clear h120
  go_wp2_with fail
  go_loopw [7, 8] (fun i q8 wr => ∃ k0 : Nat, i = .int .i64 (k0 : Int) ∧ k0 ≤ k ∧ Hid (∀ i (h : i < Z.length), i < k0 → rowOk n m Z[i].2.t Z[i].2.count Z[i].2.dims Z[i].2.aggs) ∧ Hid (Below w2.heap.size w2 wr)) (fun i _ _ => k - (intOf i).toNat)
  case atStart => exact ⟨0, rfl, by omega, Lib.hid (fun i _ h => absurd h (by omega)), Lib.hid (Below.refl _ _)⟩
  case round =>
    obtain ⟨k0, rfl, hk, HE, HBW⟩ := hrel
    by_cases hlt : k0 < k
    case neg =>
      have hki : ¬ (k0 : Int) < (k : Int) := by omega
      obtain rfl : r = true := HRR.out.2 fun i h => HE.out i h (by have := HK.out; omega)
      clear hlt
      go_wp2_with fail
      go_ret
      exact ⟨rfl, bthen HBT.out HBW.out⟩
    case pos =>
    have hki : (k0 : Int) < (k : Int) := by omega
    have hk00 : (0 : Int) ≤ (k0 : Int) := by omega
    have hkL : k0 < Z.length := by have := HK.out; omega
    have hrc := HC.out.keep (Nat.le_refl _) HBW.out
    obtain ⟨b1, o1, rfl, p0, p1, p2, p3⟩ := row4 hrc hkL
    have gd := (HGD.out _ (List.getElem_mem hkL)).keep HBW.out
    have hs1 := HSZ.out _ (List.getElem_mem hkL)
    obtain ⟨⟨⟨D1, n1, c1, G1, gn1, gc1⟩, ⟨t1, L1, u1, X1⟩⟩, hz1⟩ : ∃ z, z = Z[k0] := ⟨_, rfl⟩
    rw [← hz1] at p0 p1 p2 p3 gd hs1
    simp only at p0 p1 p2 p3 hs1
    have s0 := cell_on HBW.out s0
    have s1 := cell_on HBW.out s1
    obtain ⟨v, hv⟩ := bool_of (rowOk n m t1 u1 L1 X1)
    have HV := Lib.hid (show v = true ↔ rowOk n m Z[k0].2.t Z[k0].2.count Z[k0].2.dims Z[k0].2.aggs by rw [← hz1]; exact hv)
    have HRC := Lib.hid (show ∀ W, Below wr.heap.size wr W → Calls Try.prog 30 #[.agg #[.slice A n c, .slice B m d], .agg #[.int .i64 t1, .slice D1 n1 c1, .int .i64 u1, .slice G1 gn1 gc1]] W fun e w' => e = .returned (.bool v) ∧ Below W.heap.size W w' from fun W hW =>
      refrowright_any t1 u1 A B D1 G1 n m c d n1 c1 gn1 gc1 L1 X1 W (gd.rd.keep (Nat.le_refl _) hW) (gd.rg.keep (Nat.le_refl _) hW) gd.nd gd.ng gd.sd gd.sg hs1 v hv)
    clear hz1 gd hs1 hrc hv hlt
    go_wp2_with fail
    refine wp_region_held_drew (S := fun w' => Below wr.heap.size wr w') (by kernel_rfl) (below_drewN (Below.refl _ _) 1) ?_
    intro hHeld
    refine take_want (i := 0) (v := ?v0k1) rfl (by kernel_rfl) (by kernel_rfl) (by kernel_rfl) (fun _ _ _ h => h) (by rfl) ?y0k1 (by assumption) ?r0k1
    case y0k1 => (intro w hSw; have q0 := cell_on hSw s0; have q1 := cell_on hSw s1; have m1 := cell_on hSw p0; have m2 := cell_on hSw p1; have m3 := cell_on hSw p2; have m4 := cell_on hSw p3; go_simp; all_goals with_reducible rfl)
    (try simp only [Act.put, List.setIfInBounds_toArray, List.set_cons_zero, List.set_cons_succ])
    refine take_want (i := 1) (v := ?v1k1) rfl (by kernel_rfl) (by kernel_rfl) (by kernel_rfl) (fun _ _ _ h => h) (by rfl) ?y1k1 (by assumption) ?r1k1
    case y1k1 => (intro w hSw; go_simp; all_goals with_reducible rfl)
    (try simp only [Act.put, List.setIfInBounds_toArray, List.set_cons_zero, List.set_cons_succ])
    refine take_want (i := 2) (v := ?v2k1) rfl (by kernel_rfl) (by kernel_rfl) (by kernel_rfl) (fun _ _ _ h => h) (by rfl) ?y2k1 (by assumption) ?r2k1
    case y2k1 => (intro w hSw; go_simp; all_goals with_reducible rfl)
    (try simp only [Act.put, List.setIfInBounds_toArray, List.set_cons_zero, List.set_cons_succ])
    refine take_want (i := 3) (v := ?v3k1) rfl (by kernel_rfl) (by kernel_rfl) (by kernel_rfl) (fun _ _ _ h => h) (by rfl) ?y3k1 (by assumption) ?r3k1
    case y3k1 => (intro w hSw; go_simp; all_goals with_reducible rfl)
    (try simp only [Act.put, List.setIfInBounds_toArray, List.set_cons_zero, List.set_cons_succ])
    refine take_want (i := 4) (v := ?v4k1) rfl (by kernel_rfl) (by kernel_rfl) (by kernel_rfl) (fun _ _ _ h => h) (by rfl) ?y4k1 (by assumption) ?r4k1
    case y4k1 => (intro w hSw; have q0 := cell_on hSw s0; have q1 := cell_on hSw s1; have m1 := cell_on hSw p0; have m2 := cell_on hSw p1; have m3 := cell_on hSw p2; have m4 := cell_on hSw p3; go_simp; all_goals with_reducible rfl)
    (try simp only [Act.put, List.setIfInBounds_toArray, List.set_cons_zero, List.set_cons_succ])
    refine wpAnyH_ready (rs := [5]) (by kernel_rfl) (by simp) ?_
    refine AllReadyH.cons rfl (fun K hK => ?_) AllReadyH.nil
    go_simp
    (go_at_call 30; refine (HRC.out _ hHeld).mono ?_; rintro e w7 ⟨rfl, hb⟩)
    refine hK.out _ _ (bthen hHeld hb) (fun hHeld => ?_)
    clear hK K
    (try simp only [Act.put, List.setIfInBounds_toArray, List.set_cons_zero, List.set_cons_succ])
    refine take_want (i := 6) (v := ?v6k1) rfl (by kernel_rfl) (by kernel_rfl) (by kernel_rfl) (fun _ _ _ h => h) (by rfl) ?y6k1 (by assumption) ?r6k1
    case y6k1 => (intro w hSw; go_simp; all_goals with_reducible rfl)
    (try simp only [Act.put, List.setIfInBounds_toArray, List.set_cons_zero, List.set_cons_succ])
    refine wpAnyH_done (by kernel_rfl) ?_ _
    have HBB := Lib.hid (HBW.out.trans (hHeld.mono HBW.out.size))
    clear HRC
    cases v with
    | true =>
      have HE2 := Lib.hid (show ∀ i (h : i < Z.length), i < k0 + 1 → rowOk n m Z[i].2.t Z[i].2.count Z[i].2.dims Z[i].2.aggs from fun i h hi => by
        by_cases e : i = k0
        · subst e; exact HV.out.1 rfl
        · exact HE.out i h (by omega))
      go_wp2_with fail
      go_roundw
      case rel => exact ⟨k0 + 1, by go_num, by omega, HE2, HBB⟩
      case measure => simp [intOf] <;> omega
    | false =>
      have HNE := Lib.hid (show r = false by
        cases r; rfl
        exact absurd (HV.out.2 (HRR.out.1 rfl k0 hkL)) (by simp))
      go_wp2_with fail
      go_ret
      exact ⟨by rw [HNE.out]; rfl, bthen HBT.out HBB.out⟩
end Go.Proofs.Ytbccjkjibffbkaa
namespace Go.Proofs.Ytbccjkjibffbkaa
open Go.ChangeShapes Go.WideShapes Go.ChangeAt Go.RowKit Go.Joins
open Go.Deep (open_slice)
set_option linter.unusedSimpArgs false
set_option linter.unusedVariables false
theorem list_of {α : Type} {p : Nat → α → Prop} : ∀ n : Nat, (∀ i, i < n → ∃ a, p i a) → ∃ L : List α, L.length = n ∧ ∀ i (h : i < L.length), p i L[i] := by
  intro n
  induction n with
  | zero => intro _; exact ⟨[], rfl, by simp⟩
  | succ n ih =>
    intro h
    obtain ⟨L, h1, h2⟩ := ih (fun i hi => h i (by omega))
    obtain ⟨a, ha⟩ := h n (by omega)
    refine ⟨L ++ [a], by simp [h1], fun i hi => ?_⟩
    by_cases hl : i < L.length
    · rw [List.getElem_append_left hl]; exact h2 i hl
    · have : i = n := by simp at hi; omega
      subst this
      rw [List.getElem_append_right (by omega)]
      simpa using ha
section
variable {H : Type} {enc : TypeId × Value → H} {w : World} {base : Nat} {spare : Nat → Bool} {held : Bool}
def Strs (w : World) (v : Value) (L : List ByteArray) : Prop :=
  ∃ A n c, v = .slice A n c ∧ Row w A (texts L) ∧ n = L.length ∧ n ≤ c ∧ c ≤ 9223372036854775807 ∧ (∀ s ∈ L, s.size ≤ 9223372036854775807) ∧ (A = none → c = 0)
theorem strs_opened {v : Value} {fuel : Nat} {x : DataW H × List MemPlace} (h : DataW.trod enc Try.prog w base spare held fuel 22 [v] = some x) : ∃ L, Strs w v L := by
  rcases Go.Deep.open_strs Try.underlying22 Try.underlying9 (by kernel_rfl) h with ⟨hcs, _⟩ | ⟨a, len, cap, m, Sx, hcs, _, hl, hm, hmm, _, hx⟩
  · simp at hcs
    exact ⟨[], none, 0, 0, hcs, .inl rfl, rfl, by omega, by omega, by simp, fun _ => rfl⟩
  · simp at hcs
    have hlm : len ≤ m := by rw [hmm]; split <;> omega
    refine ⟨(List.range len).map Sx, some a, len, cap, hcs, ?_, by simp, hl, by unfold maxLen at hm; omega, ?_, fun h => by cases h⟩
    · rcases Nat.eq_zero_or_pos len with h0 | h0
      · subst h0; exact .inl rfl
      · obtain ⟨b, off, spot⟩ := a
        have h1 := (hx 0 (by omega)).1
        have hs : spot = none := by simpa [Addr.add] using World.cell?_spot h1
        subst hs
        refine .inr ⟨b, off, rfl, fun j u hu => ?_⟩
        unfold texts at hu
        rw [List.map_map] at hu
        have hj : j < len := by
          rcases Nat.lt_or_ge j len with h | h
          · exact h
          · rw [List.getElem?_eq_none (by simpa using h)] at hu; cases hu
        rw [List.getElem?_map, List.getElem?_range hj] at hu
        simp at hu
        rw [← hu, ← (hx j (by omega)).1]
        congr 1
        unfold Addr.add
        split
        · rename_i h; subst h; rfl
        · rfl
    · intro s hs
      obtain ⟨i, hi, rfl⟩ := List.mem_map.1 hs
      have := (hx i (by have := List.mem_range.1 hi; omega)).2
      unfold maxLen at this; exact this
theorem ints_opened {v : Value} {fuel : Nat} {x : DataW H × List MemPlace} (h : DataW.trod enc Try.prog w base (fun _ => true) held fuel 90 [v] = some x) :
    ∃ (X : List Int) (A : Option Addr) (n c : Nat), v = .slice A n c ∧ Row w A (X.map (Value.int .i64)) ∧ n = X.length ∧ n ≤ c ∧ c ≤ 9223372036854775807 ∧ ∀ x ∈ X, (Lit.int .i64 x).wf = true := by
  rcases open_ints Try.underlying90 Try.underlying3 (by kernel_rfl) h with ⟨hcs, _⟩ | ⟨x, l, c, zs, hcs, _, hl, hm, hz, _, hcell, hwz⟩
  · simp at hcs
    exact ⟨[], none, 0, 0, hcs, .inl rfl, rfl, by omega, by omega, by simp⟩
  · simp at hcs
    obtain ⟨ys, h1, h2, h3, h4, h5⟩ := row_opened hl hm hz hcell hwz
    exact ⟨ys, some x, l, c, hcs, h1, h4.symm, h2, by unfold maxLen at h3; omega, h5⟩
set_option maxRecDepth 100000 in
theorem aggs_opened {v : Value} {fuel : Nat} {x : DataW H × List MemPlace} (h : DataW.trod enc Try.prog w base spare held fuel 37 [v] = some x) :
    ∃ (L : List Ag) (A : Option Addr) (len cap : Nat), v = .slice A len cap ∧ Row w A (cellsG L) ∧ len = L.length ∧ len ≤ 9223372036854775807 ∧ len ≤ cap ∧ (A = none → cap = 0) := by
  rcases open_slice Try.underlying37 h with ⟨hcs, _⟩ | ⟨a, len, cap, m, n, D, Pl, hcs, _, hl, hm, hmm, _, hi⟩
  · simp at hcs
    exact ⟨[], none, 0, 0, hcs, .inl rfl, rfl, by omega, by omega, fun _ => rfl⟩
  · simp at hcs
    have hC : Try.prog.cellsOf 72 = 3 := by kernel_rfl
    have hc3 : Try.prog.cellsOf 3 = 1 := by kernel_rfl
    rw [hC] at hi
    have hlm : len ≤ m := by rw [hmm]; split <;> omega
    obtain ⟨L, hL, hp⟩ := list_of (p := fun i (b : Ag) => (w.cell? (a.add (i * 3)) = some (.int .i64 b.1) ∧ w.cell? (a.add (i * 3 + 1)) = some (.int .i64 b.2.1) ∧ w.cell? (a.add (i * 3 + 2)) = some (.int .i64 b.2.2))) len (fun i hil => by
        obtain ⟨cs', hc, ht⟩ := hi i (by omega)
        obtain ⟨_, hcl, hat⟩ := World.cells?_some hc
        obtain ⟨ys, n', _, _, _, _, hf⟩ := DataW.trod_struct Try.underlying72 ht
        match cs', hcl with
        | [c0, c1, c2], _ =>
          have f0 : DataW.trod enc Try.prog w base spare held n' 3 ((([c0, c1, c2] : List Value).drop 0).take (Try.prog.cellsOf 3)) = ys[0]? := hf 0 _ rfl
          have f1 : DataW.trod enc Try.prog w base spare held n' 3 ((([c0, c1, c2] : List Value).drop 1).take (Try.prog.cellsOf 3)) = ys[1]? := hf 1 _ rfl
          have f2 : DataW.trod enc Try.prog w base spare held n' 3 ((([c0, c1, c2] : List Value).drop 2).take (Try.prog.cellsOf 3)) = ys[2]? := hf 2 _ rfl
          rw [hc3] at f0 f1 f2
          have g0 := hat 0 (by omega)
          have g1 := hat 1 (by omega)
          have g2 := hat 2 (by omega)
          rw [Go.Deep.add_add] at g0 g1 g2
          have ysl : ys.length = 3 := by assumption
          match ys, ysl with
          | [y0, y1, y2], _ =>
            obtain ⟨z0, e0, _, b0⟩ := DataW.trod_int Try.underlying3 (x := y0) f0
            obtain ⟨z1, e1, _, b1⟩ := DataW.trod_int Try.underlying3 (x := y1) f1
            obtain ⟨z2, e2, _, b2⟩ := DataW.trod_int Try.underlying3 (x := y2) f2
            simp at e0 e1 e2
            subst e0 e1 e2
            exact ⟨(z0, z1, z2), g0, g1, g2⟩)
    refine ⟨L, some a, len, cap, hcs, ?_, hL.symm, by unfold maxLen at hm; omega, hl, fun h => by cases h⟩
    rcases Nat.eq_zero_or_pos len with h0 | h0
    · exact .inl (by rw [List.eq_nil_of_length_eq_zero (by omega : L.length = 0)]; rfl)
    · obtain ⟨b, off, spot⟩ := a
      have h1 := (hp 0 (by omega)).1
      have hs : spot = none := by simpa [Addr.add] using World.cell?_spot h1
      subst hs
      have hadd : ∀ k, (⟨b, off, none⟩ : Addr).add k = ⟨b, off + k, none⟩ := by
        intro k; unfold Addr.add; split
        · rename_i h; subst h; rfl
        · rfl
      refine .inr ⟨b, off, rfl, fun j u hu => ?_⟩
      have hjl : j < L.length * 3 := by
        rcases Nat.lt_or_ge j (L.length * 3) with h | h
        · exact h
        · rw [List.getElem?_eq_none (by rw [cellsG_length]; omega)] at hu; cases hu
      have hk : j / 3 < L.length := by omega
      have hq := hp (j / 3) hk
      simp only [hadd] at hq
      obtain ⟨q0, q1, q2⟩ := hq
      obtain ⟨e0, e1, e2⟩ := cellsG_get L (j / 3) hk
      rcases (by omega : j = j / 3 * 3 ∨ j = j / 3 * 3 + 1 ∨ j = j / 3 * 3 + 2) with h | h | h
      · rw [h] at hu ⊢; rw [e0] at hu; cases hu; exact q0
      · rw [h] at hu ⊢; rw [e1] at hu; cases hu; exact q1
      · rw [h] at hu ⊢; rw [e2] at hu; cases hu; exact q2
theorem row_opened4 {c0 c1 c2 c3 : Value} {fuel : Nat} {x : DataW H × List MemPlace} (h : DataW.trod enc Try.prog w base spare held fuel 39 [c0, c1, c2, c3] = some x) :
    ∃ z : RZ, [c0, c1, c2, c3] = encR z ∧ Good0 w z ∧ (∀ s ∈ z.2.dims, s.size ≤ 9223372036854775807) := by
  have hc3 : Try.prog.cellsOf 3 = 1 := by kernel_rfl
  have hc22 : Try.prog.cellsOf 22 = 1 := by kernel_rfl
  have hc25 : Try.prog.cellsOf 37 = 1 := by kernel_rfl
  obtain ⟨ys, n', _, _, _, ysl, hf⟩ := DataW.trod_struct Try.underlying39 h
  have f0 : DataW.trod enc Try.prog w base spare held n' 3 ((([c0, c1, c2, c3] : List Value).drop 0).take (Try.prog.cellsOf 3)) = ys[0]? := hf 0 _ rfl
  have f1 : DataW.trod enc Try.prog w base spare held n' 22 ((([c0, c1, c2, c3] : List Value).drop 1).take (Try.prog.cellsOf 22)) = ys[1]? := hf 1 _ rfl
  have f2 : DataW.trod enc Try.prog w base spare held n' 3 ((([c0, c1, c2, c3] : List Value).drop 2).take (Try.prog.cellsOf 3)) = ys[2]? := hf 2 _ rfl
  have f3 : DataW.trod enc Try.prog w base spare held n' 37 ((([c0, c1, c2, c3] : List Value).drop 3).take (Try.prog.cellsOf 37)) = ys[3]? := hf 3 _ rfl
  rw [hc3] at f0 f2
  rw [hc22] at f1
  rw [hc25] at f3
  have ysl' : ys.length = 4 := ysl
  match ys, ysl' with
  | [y0, y1, y2, y3], _ =>
    obtain ⟨t, e0, _, _⟩ := DataW.trod_int Try.underlying3 (x := y0) f0
    obtain ⟨u, e2, _, _⟩ := DataW.trod_int Try.underlying3 (x := y2) f2
    obtain ⟨L, D, n, c, e1, hr, hn, hnc, hc, hs, ha⟩ := strs_opened (x := y1) (by simpa using f1)
    obtain ⟨X, G, gn, gc, e3, hg, hgn, hgb, hgc, hga⟩ := aggs_opened (x := y3) (by simpa using f3)
    simp at e0 e2
    subst e0 e1 e2 e3
    exact ⟨(⟨D, n, c, G, gn, gc⟩, ⟨t, L, u, X⟩), rfl, ⟨hr, hn, hnc, ha, by show n ≤ _; omega, hg, hgn, hgc, hga, hgb⟩, hs⟩
end
end Go.Proofs.Ytbccjkjibffbkaa
namespace Go.Proofs.Ytbccjkjibffbkaa
open Go.ChangeShapes Go.WideShapes Go.ChangeAt Go.RowKit Go.Joins
open Go.Deep (open_slice)
set_option linter.unusedSimpArgs false
set_option linter.unusedVariables false
section
variable {H : Type} {enc : TypeId × Value → H} {w : World} {base : Nat} {spare : Nat → Bool} {held : Bool}
theorem rows_opened {v : Value} {fuel : Nat} {x : DataW H × List MemPlace} (h : DataW.trod enc Try.prog w base spare held fuel 28 [v] = some x) :
    ∃ (L : List RZ) (A : Option Addr) (len cap : Nat), v = .slice A len cap ∧ Row w A (cellsR L) ∧ (∀ z ∈ L, Good0 w z ∧ ∀ s ∈ z.2.dims, s.size ≤ 9223372036854775807) ∧ len = L.length ∧ len ≤ 9223372036854775807 ∧ len ≤ cap ∧ (A = none → cap = 0) := by
  rcases open_slice Try.underlying28 h with ⟨hcs, _⟩ | ⟨a, len, cap, m, n, D, Pl, hcs, _, hl, hm, hmm, _, hi⟩
  · simp at hcs
    exact ⟨[], none, 0, 0, hcs, .inl rfl, (fun z hz => by cases hz), rfl, by omega, by omega, fun _ => rfl⟩
  · simp at hcs
    have hC : Try.prog.cellsOf 39 = 4 := by kernel_rfl
    rw [hC] at hi
    have hlm : len ≤ m := by rw [hmm]; split <;> omega
    obtain ⟨L, hL, hp⟩ := list_of (p := fun i (b : RZ) => ((w.cell? (a.add (i * 4)) = some (.int .i64 b.2.t) ∧ w.cell? (a.add (i * 4 + 1)) = some (.slice b.1.D b.1.n b.1.c) ∧ w.cell? (a.add (i * 4 + 2)) = some (.int .i64 b.2.count) ∧ w.cell? (a.add (i * 4 + 3)) = some (.slice b.1.G b.1.gn b.1.gc)) ∧ Good0 w b ∧ ∀ s ∈ b.2.dims, s.size ≤ 9223372036854775807)) len (fun i hil => by
        obtain ⟨cs', hc, ht⟩ := hi i (by omega)
        obtain ⟨_, hcl, hat⟩ := World.cells?_some hc
        match cs', hcl with
        | [c0, c1, c2, c3], _ =>
          obtain ⟨z, ez, gz, sz⟩ := row_opened4 ht
          have g0 := hat 0 (by omega)
          have g1 := hat 1 (by omega)
          have g2 := hat 2 (by omega)
          have g3 := hat 3 (by omega)
          rw [Go.Deep.add_add] at g0 g1 g2 g3
          simp only [encR, List.cons.injEq, and_true] at ez
          obtain ⟨rfl, rfl, rfl, rfl⟩ := ez
          exact ⟨z, ⟨g0, g1, g2, g3⟩, gz, sz⟩)
    refine ⟨L, some a, len, cap, hcs, ?_, ?_, hL.symm, by unfold maxLen at hm; omega, hl, fun h => by cases h⟩
    · rcases Nat.eq_zero_or_pos len with h0 | h0
      · exact .inl (by rw [List.eq_nil_of_length_eq_zero (by omega : L.length = 0)]; rfl)
      · obtain ⟨b, off, spot⟩ := a
        have h1 := (hp 0 (by omega)).1.1
        have hs : spot = none := by simpa [Addr.add] using World.cell?_spot h1
        subst hs
        have hadd : ∀ k, (⟨b, off, none⟩ : Addr).add k = ⟨b, off + k, none⟩ := by
          intro k; unfold Addr.add; split
          · rename_i h; subst h; rfl
          · rfl
        refine .inr ⟨b, off, rfl, fun j u hu => ?_⟩
        have hjl : j < L.length * 4 := by
          rcases Nat.lt_or_ge j (L.length * 4) with h | h
          · exact h
          · rw [List.getElem?_eq_none (by rw [cellsR_length]; omega)] at hu; cases hu
        have hk : j / 4 < L.length := by omega
        have hq := (hp (j / 4) hk).1
        simp only [hadd] at hq
        obtain ⟨q0, q1, q2, q3⟩ := hq
        have e0 := cellsR_get L (j / 4) hk 0 _ rfl
        have e1 := cellsR_get L (j / 4) hk 1 _ rfl
        have e2 := cellsR_get L (j / 4) hk 2 _ rfl
        have e3 := cellsR_get L (j / 4) hk 3 _ rfl
        rcases (by omega : j = j / 4 * 4 + 0 ∨ j = j / 4 * 4 + 1 ∨ j = j / 4 * 4 + 2 ∨ j = j / 4 * 4 + 3) with h | h | h | h
        · rw [h] at hu ⊢; rw [e0] at hu; cases hu; exact q0
        · rw [h] at hu ⊢; rw [e1] at hu; cases hu; exact q1
        · rw [h] at hu ⊢; rw [e2] at hu; cases hu; exact q2
        · rw [h] at hu ⊢; rw [e3] at hu; cases hu; exact q3
    · intro z hz
      obtain ⟨i, hi', rfl⟩ := List.getElem_of_mem hz
      exact (hp i hi').2
end
end Go.Proofs.Ytbccjkjibffbkaa
