/- CheckTells: its walk. -/
import Derived.Test.YtnnagjlpkieobaaDoorYH
namespace Go.Proofs.YtnnagjlpkieobaaDoor
open Go.RowKit
set_option linter.unusedSimpArgs false
set_option linter.unusedVariables false
def firstV (o : Option (List Int × Nat)) : List Int × Nat × Int := match o with | none => ([], 0, 21) | some (xs, L) => (xs, L, 0)
theorem FirstAny.open {w w' : World} {o : Option (List Int × Nat)} {e : Ending} (h : FirstAny w o e w') : ∃ A c, e = .returned (.tuple #[.slice A (firstV o).1.length c, .int .i64 (firstV o).2.1, .int .i64 (firstV o).2.2]) ∧ Row w' A ((firstV o).1.map (Value.int .u8)) ∧ Below w.heap.size w w' := by
  cases o with
  | none => obtain ⟨rfl, h2⟩ := h; exact ⟨none, 0, rfl, .inl rfl, h2⟩
  | some p => obtain ⟨xs, L⟩ := p; obtain ⟨A, c, rfl, _, h2, h3⟩ := h; exact ⟨A, c, rfl, h2, h3⟩
theorem RFirst.open {w w' : World} {A0 : Option Addr} {o : Option (List Int × Nat)} {e : Ending} (h : RFirst w A0 o e w') : ∃ A c, e = .returned (.tuple #[.slice A (firstV o).1.length c, .int .i64 (firstV o).2.1, .int .i64 (firstV o).2.2]) ∧ Row w' A ((firstV o).1.map (Value.int .u8)) ∧ Below w.heap.size w w' := by
  cases o with
  | none => obtain ⟨rfl, h2⟩ := h; exact ⟨none, 0, rfl, .inl rfl, h2⟩
  | some p => obtain ⟨xs, L⟩ := p; obtain ⟨A, c, rfl, h2, _, _, _, h3⟩ := h; exact ⟨A, c, rfl, h2, h3⟩
theorem firstZ_sub {bs xs : List Int} {L : Nat} (h : firstZ bs = some (xs, L)) : ∀ x ∈ xs, x ∈ bs := by
  unfold firstZ at h
  split at h
  · cases h
  · simp only [Option.some.injEq, Prod.mk.injEq] at h
    obtain ⟨rfl, rfl⟩ := h
    intro x hx
    exact List.mem_of_mem_drop (List.mem_of_mem_take hx)
theorem blocksF_bytes : ∀ (f : Nat) (bs : List Int), bytes bs → ∀ xs ∈ (blocksF f bs).1, bytes xs := by
  intro f
  induction f with
  | zero => intro bs _ xs h; simp [blocksF] at h
  | succ f ih =>
    intro bs hb xs hx
    rw [blocksF] at hx
    cases he : firstZ bs with
    | none => rw [he] at hx; simp at hx
    | some p =>
      obtain ⟨y, k⟩ := p
      rw [he] at hx
      simp only [List.mem_cons] at hx
      rcases hx with rfl | hx
      · exact fun z hz => hb z (firstZ_sub he z hz)
      · exact ih _ (fun z hz => hb z (List.mem_of_mem_drop hz)) xs hx
theorem blocksF_len : ∀ (f : Nat) (bs : List Int), (blocksF f bs).1.length ≤ f := by
  intro f
  induction f with
  | zero => intro bs; simp [blocksF]
  | succ f ih =>
    intro bs
    rw [blocksF]
    cases he : firstZ bs with
    | none => simp
    | some p => obtain ⟨y, k⟩ := p; simp only [List.length_cons]; have := ih (bs.drop k); omega
set_option maxRecDepth 100000 in
set_option maxHeartbeats 4000000 in
theorem tells_walk (A : Option Addr) (la ca : Nat) (X : List Int) (w : World) (hT : Tab w) (hA : Row w A (X.map (Value.int .u8))) (ha : la = X.length) (hca : la ≤ ca) (bA : bytes X) (nA : A = none → ca = 0) :
    Calls Tryd.prog 3 #[.slice A la ca] w fun e w' => e = .returned (.bool true) ∧ Below w.heap.size w w' := by
  have HT := Lib.hid hT
  have HA := Lib.hid hA
  have HLA := Lib.hid ha
  have HBA := Lib.hid bA
  have HNA := Lib.hid nA
  clear hT hA ha bA nA
  by_cases h1 : 400 < la
  · have hi1 : (400 : Int) < (la : Int) := by omega
    go_enter Tryd.func3, Tryd.ntmps3
    go_wp2_with fail
    refine (alive_any _ HT.out).mono ?_
    rintro e w1 ⟨rfl, hb⟩
    go_wp2
    go_ret
    exact ⟨rfl, hb⟩
  have hi1 : (la : Int) ≤ 400 := by omega
  go_enter Tryd.func3, Tryd.ntmps3
  go_wp2_with fail
  refine (block_any A la ca X _ HT.out HA.out HLA.out (by omega) HBA.out (fun h => by have := HNA.out h; omega)).mono ?_
  rintro e w1 ⟨A1, c1, rfl, hr1, hc1, hB1, ho1⟩
  have HR1 := Lib.hid hr1
  have HB1 := Lib.hid hB1
  clear hr1 hB1 hc1 ho1
  obtain ⟨l1, hl1⟩ : ∃ l, l = (blockL X).length := ⟨_, rfl⟩
  rw [← hl1]
  have HL1 := Lib.hid hl1
  clear hl1
  go_wp2_with fail
  refine (rblock_any A la ca X _ (HA.out.keep (Nat.le_refl _) HB1.out) HLA.out (by omega) HBA.out (fun h => by have := HNA.out h; omega)).mono ?_
  rintro e w2 ⟨A2, c2, rfl, hr2, hc2, hB2, ho2⟩
  have HR2 := Lib.hid hr2
  have HR12 := Lib.hid (HR1.out.keep (Nat.le_refl _) hB2)
  have HB2 := Lib.hid (bthen HB1.out hB2)
  clear hr2 hB2 hc2 ho2 HR1 HB1
  rw [← HL1.out]
  obtain ⟨F, hF⟩ : ∃ F, F = firstV (firstZ X) := ⟨_, rfl⟩
  go_wp2_with fail
  refine (first_any A la ca X _ (HT.out.keep HB2.out) (HA.out.keep (Nat.le_refl _) HB2.out) HLA.out hca (by omega) HBA.out HNA.out).mono ?_
  intro e w3 hf
  obtain ⟨A3, c3, rfl, hr3, hB3⟩ := hf.open
  clear hf
  rw [← hF] at hr3 ⊢
  obtain ⟨xs, L, err⟩ := F
  simp only at hr3 ⊢
  obtain ⟨l3, hl3⟩ : ∃ l, l = xs.length := ⟨_, rfl⟩
  rw [← hl3]
  have HL3 := Lib.hid hl3
  have HF := Lib.hid hF
  have HR3 := Lib.hid hr3
  have HB3 := Lib.hid (bthen HB2.out hB3)
  have HR13 := Lib.hid (HR12.out.keep (Nat.le_refl _) hB3)
  have HR23 := Lib.hid (HR2.out.keep (Nat.le_refl _) hB3)
  clear hl3 hF hr3 hB3 HR12 HR2 HB2
  go_wp2_with fail
  refine (rfirst_any A la ca X _ (HA.out.keep (Nat.le_refl _) HB3.out) HLA.out hca (by omega) HBA.out HNA.out).mono ?_
  intro e w4 hf
  obtain ⟨A4, c4, rfl, hr4, hB4⟩ := hf.open
  clear hf
  rw [← HF.out] at hr4 ⊢
  simp only at hr4 ⊢
  rw [← HL3.out]
  have HR4 := Lib.hid hr4
  have HB4 := Lib.hid (bthen HB3.out hB4)
  have HR14 := Lib.hid (HR13.out.keep (Nat.le_refl _) hB4)
  have HR24 := Lib.hid (HR23.out.keep (Nat.le_refl _) hB4)
  have HR34 := Lib.hid (HR3.out.keep (Nat.le_refl _) hB4)
  clear hr4 hB4 HR13 HR23 HR3 HB3
  obtain ⟨D, p, hD⟩ : ∃ D p, blocksZ X = (D, p) := ⟨_, _, rfl⟩
  have HD := Lib.hid hD
  have HDB := Lib.hid (show ∀ xs ∈ D, bytes xs by
    have := blocksF_bytes (X.length + 1) X HBA.out
    rw [show blocksF (X.length + 1) X = (D, p) from hD] at this
    exact this)
  have hDl : D.length ≤ 401 := by
    have := blocksF_len (X.length + 1) X
    rw [show blocksF (X.length + 1) X = (D, p) from hD] at this
    have := HLA.out
    simp only at *
    omega
  have HDL := Lib.hid hDl
  clear hD hDl
  go_wp2_with fail
  refine (blocks_any A la ca X _ (HT.out.keep HB4.out) (HA.out.keep (Nat.le_refl _) HB4.out) HLA.out hca (by omega) HBA.out HNA.out).mono ?_
  rw [HD.out]
  rintro e w5 ⟨A5, c5, vs5, rfl, hr5, hs5, hc5, hn5, hB5⟩
  simp only at hs5 hc5 ⊢
  obtain ⟨d, hd⟩ : ∃ d, d = D.length := ⟨_, rfl⟩
  rw [← hd]
  have HDD := Lib.hid hd
  have HR5 := Lib.hid hr5
  have HS5 := Lib.hid hs5
  have HB5 := Lib.hid (bthen HB4.out hB5)
  have HR15 := Lib.hid (HR14.out.keep (Nat.le_refl _) hB5)
  have HR25 := Lib.hid (HR24.out.keep (Nat.le_refl _) hB5)
  have HR35 := Lib.hid (HR34.out.keep (Nat.le_refl _) hB5)
  have HR45 := Lib.hid (HR4.out.keep (Nat.le_refl _) hB5)
  clear hr5 hs5 hc5 hn5 hB5 HR14 HR24 HR34 HR4 HB4 hd
  go_wp2_with fail
  refine (rblocks_any A la ca X _ (HA.out.keep (Nat.le_refl _) HB5.out) HLA.out hca (by omega) HBA.out HNA.out).mono ?_
  rw [HD.out]
  rintro e w6 ⟨A6, c6, vs6, rfl, hr6, hs6, hc6, hn6, hB6⟩
  simp only at hs6 hc6 ⊢
  rw [← HDD.out]
  have HR6 := Lib.hid hr6
  have HS6 := Lib.hid hs6
  have HB6 := Lib.hid (bthen HB5.out hB6)
  have HR16 := Lib.hid (HR15.out.keep (Nat.le_refl _) hB6)
  have HR26 := Lib.hid (HR25.out.keep (Nat.le_refl _) hB6)
  have HR36 := Lib.hid (HR35.out.keep (Nat.le_refl _) hB6)
  have HR46 := Lib.hid (HR45.out.keep (Nat.le_refl _) hB6)
  have HR56 := Lib.hid (HR5.out.keep (Nat.le_refl _) hB6)
  have HS56 := Lib.hid (HS5.out.keep hB6)
  clear hr6 hs6 hc6 hn6 hB6 HR15 HR25 HR35 HR45 HR5 HS5 HB5
  go_wp2_with fail
  refine (alive_any _ (HT.out.keep HB6.out)).mono ?_
  rintro e w7 ⟨rfl, hB7⟩
  have HB7 := Lib.hid (bthen HB6.out hB7)
  have HR57 := Lib.hid (HR56.out.keep (Nat.le_refl _) hB7)
  have HS57 := Lib.hid (HS56.out.keep hB7)
  have HR67 := Lib.hid (HR6.out.keep (Nat.le_refl _) hB7)
  have HS67 := Lib.hid (HS6.out.keep hB7)
  obtain ⟨t1, ht1⟩ : ∃ q, q = strOfNums (blockL X) := ⟨_, rfl⟩
  obtain ⟨t2, ht2⟩ : ∃ q, q = strOfNums xs := ⟨_, rfl⟩
  have v1 := conv_any (c := c1) (HR16.out.keep (Nat.le_refl _) hB7) HL1.out
  have v2 := conv_any (c := c2) (HR26.out.keep (Nat.le_refl _) hB7) HL1.out
  have v3 := conv_any (c := c3) (HR36.out.keep (Nat.le_refl _) hB7) HL3.out
  have v4 := conv_any (c := c4) (HR46.out.keep (Nat.le_refl _) hB7) HL3.out
  rw [← ht1] at v1 v2
  rw [← ht2] at v3 v4
  clear hB7 HR16 HR26 HR36 HR46 HR56 HS56 HR6 HS6 HB6 ht1 ht2
  obtain ⟨S, hS⟩ : ∃ S, S = sumI X := ⟨_, rfl⟩
  have HSS := Lib.hid hS
  clear hS
  go_wp2_with fail
  refine (sum_any A la ca X _ (HT.out.keep HB7.out) (HA.out.keep (Nat.le_refl _) HB7.out) HLA.out (by omega) HBA.out).mono ?_
  rintro e w8 ⟨rfl, rfl⟩
  rw [← HSS.out]
  go_wp2_with fail
  refine (rsum_any A la ca X _ (HA.out.keep (Nat.le_refl _) HB7.out) HLA.out (by omega) HBA.out).mono ?_
  rintro e w8 ⟨rfl, rfl⟩
  rw [← HSS.out]
  go_wp2_with fail
  refine (same_any A5 A6 d c5 d c6 vs5 vs6 D D _ HR57.out HR67.out HS57.out HS67.out HDD.out HDD.out (by have := HDL.out; have := HDD.out; omega) HDB.out HDB.out).mono ?_
  rintro e w8 ⟨rfl, m, rfl⟩
  rw [decide_eq_true (rfl : D = D)]
  clear v1 v2 v3 v4
  go_wp2_with fail
  go_ret
  exact ⟨rfl, below_drewN HB7.out _⟩
end Go.Proofs.YtnnagjlpkieobaaDoor
