/- A block tells its bytes. -/
import Derived.Test.YtnnagjlpkieobaaDoorT
import Derived.Test.YtnnagjlpkieobaaDoorL
import Derived.Deep.RegionHeld3
import Derived.StillTactics
import Derived.OwnWalk
namespace Go.Proofs.YtnnagjlpkieobaaDoor
open Go.RowKit
set_option linter.unusedSimpArgs false
set_option linter.unusedVariables false
theorem blockL_inj {xs ys : List Int} (hx : xs.length ≤ 100000) (hy : ys.length ≤ 100000) (h : blockL xs = blockL ys) : xs = ys := by
  have e1 : ∀ zs : List Int, blockL zs = encV (zs.length : Int) ++ (zs ++ sumB (sumN (headL zs))) := by
    intro zs; unfold blockL headL; rw [List.append_assoc]
  have h1 := numP_enc (v := (xs.length : Int)) (by omega) (by omega) (xs ++ sumB (sumN (headL xs)))
  have h2 := numP_enc (v := (ys.length : Int)) (by omega) (by omega) (ys ++ sumB (sumN (headL ys)))
  rw [← e1] at h1 h2
  rw [h, h2] at h1
  have hl : xs.length = ys.length := by
    have := congrArg Prod.fst h1
    simp at this; omega
  rw [e1 xs, e1 ys, hl] at h
  exact (List.append_inj (List.append_cancel_left h) hl).1
theorem blockL_bytes {xs : List Int} (h : bytes xs) : bytes (blockL xs) := by
  intro z hz
  rcases List.mem_append.1 hz with hz | hz
  · exact head_bytes h z hz
  · exact sumB_bytes _ z hz
theorem blockL_iff {xs ys : List Int} (hx : xs.length ≤ 100000) (hy : ys.length ≤ 100000) : (blockL xs = blockL ys) ↔ xs = ys := ⟨blockL_inj hx hy, fun h => by rw [h]⟩
theorem strOf_back {a : List Int} (ha : bytes a) : (strOfNums a).data.toList.map (fun c => (c.toNat : Int)) = a := by
  rw [strOfNums_data, List.map_map]
  conv => rhs; rw [← List.map_id a]
  apply List.map_congr_left
  intro x hx
  obtain ⟨h0, h1⟩ := ha x hx
  simp only [Function.comp, id, UInt8.toNat_ofNat']
  omega
theorem strOf_inj {a b : List Int} (ha : bytes a) (hb : bytes b) (h : strOfNums a = strOfNums b) : a = b := by
  rw [← strOf_back ha, ← strOf_back hb, h]
theorem conv_zero (D : Option Addr) (c : Nat) (w : World) : Sem.run Tryd.prog (convert 22 9 (.slice D 0 c)) w = .ok (.string (strOfNums [])) w := by
  cases D with
  | none => exact run_convert_bytes_nil w 22 5 Tryd.underlying22 Tryd.underlying5 0 c 9 Tryd.underlying9
  | some a =>
    have hl : (loadCells a 0).run Tryd.prog w = .ok (([] : List Int).map (Value.int .u8)).toArray w := by
      have := run_loadCells_list (P := Tryd.prog) w a [] (fun j v hj => by simp at hj)
      simpa using this
    rw [run_convert_bytes_string w 22 9 5 _ 0 c Tryd.underlying22 Tryd.underlying5 Tryd.underlying9, run_bytesToString w _ 0 c [] hl]
    rfl
theorem conv_any {w : World} {D : Option Addr} {n c : Nat} {xs : List Int} (h : Row w D (xs.map (Value.int .u8))) (hn : n = xs.length) :
    Sem.run Tryd.prog (convert 22 9 (.slice D n c)) w = .ok (.string (strOfNums xs)) w := by
  rcases h with h | ⟨b, off, rfl, hc⟩
  · simp at h; subst h; subst hn; exact conv_zero D c w
  · exact conv_row (.inr ⟨b, off, rfl, hc⟩) hn
def TellS (w : World) (A : Option Addr) (n c : Nat) (q : ByteArray) : Prop := ∃ xs : List Int, Row w A (xs.map (Value.int .u8)) ∧ n = xs.length ∧ q = strOfNums xs ∧ Sem.run Tryd.prog (convert 22 9 (.slice A n c)) w = .ok (.string q) w
/-- A block of bytes that may be written. -/
def Pc (w : World) (g n : Nat) : Prop := ∃ cur, w.heap[g]? = some (.cells cur 5 (0, 0)) ∧ ∀ j, j < n → ∃ z : Int, 0 ≤ z ∧ z ≤ 255 ∧ cur[j]? = some (.int .u8 z)
theorem Pc.cell {w : World} {g n j : Nat} (h : Pc w g n) (hj : j < n) : ∃ z : Int, 0 ≤ z ∧ z ≤ 255 ∧ w.cell? ⟨g, j, none⟩ = some (.int .u8 z) := by
  obtain ⟨cur, h1, h2⟩ := h
  obtain ⟨z, z1, z2, z3⟩ := h2 j hj
  exact ⟨z, z1, z2, by rw [cell_of_row w g j cur 5 (0, 0) h1]; exact z3⟩
theorem Pc.frozen {w : World} {g n : Nat} (h : Pc w g n) (j : Nat) : w.frozen? ⟨g, j, none⟩ = false := by
  obtain ⟨cur, h1, h2⟩ := h
  simp [World.frozen?, h1]
theorem Pc.set_ {w : World} {g n k : Nat} (h : Pc w g n) {u : Int} (h0 : 0 ≤ u) (h9 : u ≤ 255) : Pc (w.setCell ⟨g, k, none⟩ (.int .u8 u)) g n := by
  obtain ⟨cur, h1, h2⟩ := h
  refine ⟨cur.setIfInBounds k (.int .u8 u), by simp [World.setCell, Array.getElem?_modify, h1], fun j hj => ?_⟩
  obtain ⟨z, z1, z2, z3⟩ := h2 j hj
  by_cases e : k = j
  · subst e
    have hs : k < cur.size := by
      rcases Nat.lt_or_ge k cur.size with h | h
      · exact h
      · rw [Array.getElem?_eq_none h] at z3; cases z3
    exact ⟨u, h0, h9, by simp [Array.getElem?_setIfInBounds, hs]⟩
  · exact ⟨z, z1, z2, by rw [Array.getElem?_setIfInBounds, if_neg e]; exact z3⟩
set_option maxRecDepth 100000 in
set_option maxHeartbeats 4000000 in
theorem own_walk (A B : Option Addr) (la ca lb cb : Nat) (X Y : List Int) (w : World) (hT : Tab w) (hA : Row w A (X.map (Value.int .u8))) (hB : Row w B (Y.map (Value.int .u8)))
    (ha : la = X.length) (hb : lb = Y.length) (hca : la ≤ ca) (hcb : lb ≤ cb) (bA : bytes X) (bB : bytes Y) (nA : A = none → ca = 0) (nB : B = none → cb = 0) :
    Calls Tryd.prog 6 #[.slice A la ca, .slice B lb cb] w fun e w' => e = .returned (.bool true) ∧ Below w.heap.size w w' := by
  by_cases h1 : 400 < la
  · have hi1 : (400 : Int) < (la : Int) := by omega
    have HT := Lib.hid hT
    clear hT hA hB ha hb hca hcb bA bB nA nB
    go_enter Tryd.func6, Tryd.ntmps6
    go_wp2_with fail
    refine (alive_any _ HT.out).mono ?_
    rintro e w1 ⟨rfl, hb⟩
    go_wp2
    go_ret
    exact ⟨rfl, hb⟩
  by_cases h2 : 400 < lb
  · have hi1 : (la : Int) ≤ 400 := by omega
    have hi2 : (400 : Int) < (lb : Int) := by omega
    have HT := Lib.hid hT
    clear hT hA hB ha hb hca hcb bA bB nA nB
    go_enter Tryd.func6, Tryd.ntmps6
    go_wp2_with fail
    refine (alive_any _ HT.out).mono ?_
    rintro e w1 ⟨rfl, hb⟩
    go_wp2
    go_ret
    exact ⟨rfl, hb⟩
  have hi1 : (la : Int) ≤ 400 := by omega
  have hi2 : (lb : Int) ≤ 400 := by omega
  have HT := Lib.hid hT
  have HA := Lib.hid hA
  have HB := Lib.hid hB
  have HLA := Lib.hid ha
  have HLB := Lib.hid hb
  have HBA := Lib.hid bA
  have HBB := Lib.hid bB
  have HNA := Lib.hid nA
  have HNB := Lib.hid nB
  clear hT hA hB ha hb bA bB nA nB
  go_enter Tryd.func6, Tryd.ntmps6
  go_wp2_with fail
  refine (block_any A la ca X _ HT.out HA.out HLA.out (by omega) HBA.out (fun h => by have := HNA.out h; omega)).mono ?_
  rintro e w1 ⟨A1, c1, rfl, hr1, hc1, hB1, ho1⟩
  have HR1 := Lib.hid hr1
  have HB1 := Lib.hid hB1
  have HC1 := Lib.hid hc1
  clear hr1 hB1 hc1 ho1
  obtain ⟨l1, hl1⟩ : ∃ l, l = (blockL X).length := ⟨_, rfl⟩
  rw [← hl1]
  have HL1 := Lib.hid hl1
  clear hl1
  go_wp2_with fail
  refine (block_any B lb cb Y _ (HT.out.keep HB1.out) (HB.out.keep (Nat.le_refl _) HB1.out) HLB.out (by omega) HBB.out (fun h => by have := HNB.out h; omega)).mono ?_
  rintro e w2 ⟨A2, c2, rfl, hr2, hc2, hB2, ho2⟩
  have HR2 := Lib.hid hr2
  have HB2 := Lib.hid (bthen HB1.out hB2)
  have HR12 := Lib.hid (HR1.out.keep (Nat.le_refl _) hB2)
  clear hr2 hB2 hc2 ho2
  obtain ⟨l2, hl2⟩ : ∃ l, l = (blockL Y).length := ⟨_, rfl⟩
  rw [← hl2]
  have HL2 := Lib.hid hl2
  clear hl2
  go_wp2_with fail
  have hbl : l1 ≤ 414 := by
    have h := HL1.out
    have := enc_bd (X.length : Int)
    have := HLA.out
    rw [h]; unfold blockL headL; simp [sumB]; omega
  have HBL := Lib.hid hbl
  clear hbl
  refine (first_good A1 l1 c1 X [] _ (HT.out.keep HB2.out) (by rw [List.append_nil]; exact HR12.out) (by rw [List.append_nil]; exact HL1.out) (by have := HC1.out; have := HL1.out; omega) (by have := HBL.out; omega) (by have := HLA.out; omega) HBA.out (by intro x hx; cases hx)).mono ?_
  rintro e w3 ⟨A3, c3, rfl, ho3, hr3, hB3⟩
  rw [← HL1.out, ← HLA.out]
  rw [← HLA.out] at ho3
  have HO3 := Lib.hid ho3
  have HB3 := Lib.hid hB3
  have hla3 : la ≤ c3 ∨ la = 0 := by
    rcases ho3.2 with ⟨h, h0⟩ | ⟨g, cap, cur, h, _, _, hc, _⟩
    · exact .inr h0
    · cases h; exact .inl hc
  clear ho3 hr3 hB3
  have hpc : ∀ k < la, ∃ g, A3 = some ⟨g, 0, none⟩ ∧ w2.heap.size ≤ g ∧ Pc w3 g la := by
    intro k hk
    rcases HO3.out.2 with ⟨h, h0⟩ | ⟨g, cap, cur, h, hg, hh, hc, hm, hsz, htk⟩
    · omega
    · cases h
      refine ⟨g, rfl, hg, cur, hh, fun j hj => ?_⟩
      have hjx : j < X.length := by have := HLA.out; omega
      have hb := HBA.out X[j] (List.getElem_mem hjx)
      refine ⟨X[j], hb.1, hb.2, ?_⟩
      have h2 : (cur.toList.take (la * 1))[j]? = some (.int .u8 X[j]) := by rw [htk]; simp [hjx]
      rw [List.getElem?_take, if_pos (by omega)] at h2
      simpa using h2
  have HPC := Lib.hid hpc
  have HL3 := Lib.hid hla3
  clear hpc HO3 hla3
  go_wp2_with fail
  go_loopw [12] (fun i wr => ∃ k : Nat, k ≤ la ∧ i = .int .i64 k ∧ Hid (∀ g, A3 = some ⟨g, 0, none⟩ → Pc w3 g la → Pc wr g la) ∧ Hid (Below w2.heap.size w2 wr)) (fun i _ => la - (intOf i).toNat)
  case atStart => exact ⟨0, by omega, rfl, Lib.hid (fun _ _ h => h), HB3⟩
  case round =>
    obtain ⟨k, hk, rfl, HP, HBW⟩ := hrel
    by_cases hlt : k < la
    · obtain ⟨g, rfl, hg, hp3⟩ := HPC.out k hlt
      have hp := HP.out g rfl hp3
      obtain ⟨z, z1, z2, zc⟩ := hp.cell hlt
      have hfr := hp.frozen k
      have HPk := Lib.hid hp
      have HP3 := Lib.hid hp3
      have ki : (k : Int) < (la : Int) := by omega
      have k0 : (0 : Int) ≤ (k : Int) := by omega
      clear hp hp3
      go_wp2_with fail
      go_roundw
      case rel =>
        refine ⟨k + 1, by omega, by go_num, Lib.hid (fun g' e _ => ?_), Lib.hid (HBW.out.setCell (p := ⟨g, k, none⟩) hg _)⟩
        cases e
        exact HPk.out.set_ (by omega) (by omega)
      case measure => simp [intOf]; omega
    · have hkl : k = la := by omega
      subst hkl
      go_wp2_with fail
      have HBW2 := Lib.hid (bthen HB2.out HBW.out)
      have HRx := Lib.hid (HR12.out.keep (Nat.le_refl _) HBW.out)
      have HRy := Lib.hid (HR2.out.keep (Nat.le_refl _) HBW.out)
      refine (first_good A1 l1 c1 X [] _ (HT.out.keep HBW2.out) (by rw [List.append_nil]; exact HRx.out) (by rw [List.append_nil]; exact HL1.out) (by have := HC1.out; have := HL1.out; omega) (by have := HBL.out; omega) (by have := HLA.out; omega) HBA.out (by intro x hx; cases hx)).mono ?_
      rintro e w5 ⟨A4, c4, rfl, ho4, hr4, hB4⟩
      rw [← HL1.out, ← HLA.out]
      have HR4 := Lib.hid hr4
      have HB5 := Lib.hid (bthen HBW2.out hB4)
      have HX5 := Lib.hid (HRx.out.keep (Nat.le_refl _) hB4)
      have HY5 := Lib.hid (HRy.out.keep (Nat.le_refl _) hB4)
      have HA5 := Lib.hid (HA.out.keep (Nat.le_refl _) HB5.out)
      have HBB5 := Lib.hid (HB.out.keep (Nat.le_refl _) HB5.out)
      have HT5 := Lib.hid (HT.out.keep HB5.out)
      clear ho4 hr4 hB4
      obtain ⟨sX, hsX⟩ : ∃ q, q = strOfNums X := ⟨_, rfl⟩
      obtain ⟨sY, hsY⟩ : ∃ q, q = strOfNums Y := ⟨_, rfl⟩
      obtain ⟨tX, htX⟩ : ∃ q, q = strOfNums (blockL X) := ⟨_, rfl⟩
      obtain ⟨tY, htY⟩ : ∃ q, q = strOfNums (blockL Y) := ⟨_, rfl⟩
      have HS1 := Lib.hid hsX
      have HS2 := Lib.hid hsY
      have HS3 := Lib.hid htX
      have HS4 := Lib.hid htY
      clear hsX hsY htX htY
      go_wp2_with fail
      refine (alive_any _ HT5.out).mono ?_
      rintro e w6 ⟨rfl, hb6⟩
      have HB6 := Lib.hid (bthen HB5.out hb6)
      have v1 := conv_any (c := c4) (HR4.out.keep (Nat.le_refl _) hb6) HLA.out
      have v2 := conv_any (c := ca) (HA5.out.keep (Nat.le_refl _) hb6) HLA.out
      have v3 := conv_any (c := c1) (HX5.out.keep (Nat.le_refl _) hb6) HL1.out
      have v4 := conv_any (c := c2) (HY5.out.keep (Nat.le_refl _) hb6) HL2.out
      have v5 := conv_any (c := cb) (HBB5.out.keep (Nat.le_refl _) hb6) HLB.out
      rw [← HS1.out] at v1 v2
      rw [← HS2.out] at v5
      rw [← HS3.out] at v3
      rw [← HS4.out] at v4
      have hlx : X.length ≤ 100000 := by have := HLA.out; omega
      have hly : Y.length ≤ 100000 := by have := HLB.out; omega
      have hiff : (tX = tY) ↔ (sX = sY) := by
        rw [HS1.out, HS2.out, HS3.out, HS4.out]
        constructor
        · intro h
          rw [blockL_inj hlx hly (strOf_inj (blockL_bytes HBA.out) (blockL_bytes HBB.out) h)]
        · intro h
          rw [strOf_inj HBA.out HBB.out h]
      have hq : ((tX.toList == tY.toList) == (sX.toList == sY.toList)) = true := by
        by_cases e : sX = sY
        · have e2 := hiff.2 e
          subst e e2
          simp
        · have e2 : ¬ tX = tY := fun h => e (hiff.1 h)
          have t : ∀ a b : ByteArray, a ≠ b → (a.toList == b.toList) = false := fun a b hn => by
            rw [ByteArray.toList_eq, ByteArray.toList_eq, beq_eq_false_iff_ne]
            exact fun h => hn (by cases a; cases b; congr 1; exact Array.toList_inj.1 h)
          rw [t _ _ e, t _ _ e2]; rfl
      have HF := Lib.hid hq
      clear hb6 hiff hq
      go_wp2_with fail
      clear v1 v2 v3 v4 v5
      go_ret
      exact ⟨by first | (simp [HF.out]; done) | (have := HF.out; simp_all), HB6.out⟩
end Go.Proofs.YtnnagjlpkieobaaDoor
