/- SchemaNames' walk. -/
import Derived.Test.YtbecgknahhhfiaaO
import Derived.Deep.RegionHeld3
namespace Go.Proofs.Ytbecgknahhhfiaa
open Go.RowKit
set_option linter.unusedSimpArgs false
set_option linter.unusedVariables false
theorem okN_okV {i b : Nat} (h : okN i b) : wrongV b = false := by
  unfold okN at h; unfold wrongV
  simp only [Bool.or_eq_false_iff, decide_eq_false_iff_not]
  omega
theorem name_val {s : ByteArray} (h : nameP s) : valP s ∧ s ≠ ⟨#[]⟩ := by
  refine ⟨⟨by have := h.2.1; omega, fun i hi => okN_okV (h.2.2.2 i hi)⟩, fun e => ?_⟩
  have := h.1; rw [e] at this; simp [ByteArray.size] at this
theorem apart_first {L : List ByteArray} (h : apartP L) {k : Nat} (hk : k < L.length) : FirstAt L L[k] (some k) :=
  ⟨hk, rfl, fun j hj => h j k hj hk⟩
theorem apart_left {L M : List ByteArray} (h : apartP (L ++ M)) : apartP L := fun i j hij hj => by
  have := h i j hij (by rw [List.length_append]; omega)
  rw [List.getElem_append_left (by omega), List.getElem_append_left hj] at this
  exact this
theorem apart_none {L M : List ByteArray} (h : apartP (L ++ M)) {k : Nat} (hk : k < L.length) : FirstAt M L[k] none := fun j hj e => by
  have := h k (L.length + j) (by omega) (by rw [List.length_append]; omega)
  rw [List.getElem_append_left hk, List.getElem_append_right (by omega)] at this
  simp only [Nat.add_sub_cancel_left] at this
  exact this e.symm
theorem bool_of (p : Prop) : ∃ q : Bool, q = true ↔ p := by
  by_cases h : p
  · exact ⟨true, by simp [h]⟩
  · exact ⟨false, by simp [h]⟩
set_option maxRecDepth 100000 in
set_option maxHeartbeats 8000000 in
theorem names_walk (A B : Option Addr) (n c m d : Nat) (L M : List ByteArray) (s : ByteArray) (w : World) (hA : Row w A (texts L)) (hB : Row w B (texts M)) (hn : n = L.length) (hm : m = M.length) (hnc : n ≤ c) (hmd : m ≤ d) (ha : A = none → c = 0) (hb : B = none → d = 0)
    (hL : ∀ s ∈ L, s.size ≤ 9223372036854775807) (hM : ∀ s ∈ M, s.size ≤ 9223372036854775807) (hs : s.size ≤ 9223372036854775807) (hn2 : n ≤ 9223372036854775807) (hm2 : m ≤ 9223372036854775807) :
    Calls Try.prog 5 #[.agg #[.slice A n c, .slice B m d], .string s] w fun e w' => e = .returned (.bool true) ∧ Below w.heap.size w w' := by
  have HA := Lib.hid hA
  have HB := Lib.hid hB
  have HN := Lib.hid hn
  have HM := Lib.hid hm
  have Ha := Lib.hid ha
  have Hb := Lib.hid hb
  have HL := Lib.hid hL
  have HLM := Lib.hid hM
  clear hA hB hn hm ha hb hL hM
  obtain ⟨p, hp⟩ := bool_of (fitsP L)
  obtain ⟨q, hq⟩ := bool_of (fitsP M)
  obtain ⟨z, hz⟩ : ∃ z, z = s.size := ⟨_, rfl⟩
  have hzz : s.size = z := hz.symm
  have HP := Lib.hid hp
  have HQ := Lib.hid hq
  obtain ⟨W0, hW0⟩ : ∃ W0, W0 = w.alloc (.cells #[.slice A n c, .slice B m d] 24) := ⟨_, rfl⟩
  have hb0 : Below w.heap.size w W0 := by rw [hW0]; exact bpush (Below.refl _ _) _
  have hsz0 : W0.heap.size = w.heap.size + 1 := by rw [hW0]; simp
  have g0 : W0.cell? ⟨w.heap.size, 0, none⟩ = some (.slice A n c) := by rw [hW0]; simp
  have g1 : W0.cell? ⟨w.heap.size, 1, none⟩ = some (.slice B m d) := by rw [hW0]; simp
  have HW0 := Lib.hid hW0
  have HB0 := Lib.hid hb0
  have HSZ0 := Lib.hid hsz0
  have HA0 := Lib.hid (HA.out.keep (Nat.le_refl _) hb0)
  have HM0 := Lib.hid (HB.out.keep (Nat.le_refl _) hb0)
  clear hp hq hz hW0 hb0 hsz0
  go_enter Try.func5, Try.ntmps5
  go_wp2_with fail
  rw [← HW0.out]
  refine (fits_any A n c L _ HA0.out HN.out hn2 p HP.out).mono ?_
  rintro e w1 ⟨rfl, rfl⟩
  go_wp2_with fail
  refine (fits_any B m d M _ HM0.out HM.out hm2 q HQ.out).mono ?_
  rintro e w1 ⟨rfl, rfl⟩
  cases p with
  | false =>
    go_wp2_with fail
    refine (alive_any _).mono ?_
    rintro e w1 ⟨rfl, hb⟩
    go_wp2_with fail
    go_ret
    exact ⟨rfl, bthen HB0.out hb⟩
  | true =>
  cases q with
  | false =>
    go_wp2_with fail
    refine (alive_any _).mono ?_
    rintro e w1 ⟨rfl, hb⟩
    go_wp2_with fail
    go_ret
    exact ⟨rfl, bthen HB0.out hb⟩
  | true =>
  by_cases h80 : 80 < z
  · have d8 : decide (80 < (z : Int)) = true := by simp; omega
    clear h80
    go_wp2_with fail
    refine (alive_any _).mono ?_
    rintro e w1 ⟨rfl, hb⟩
    go_wp2_with fail
    go_ret
    exact ⟨rfl, bthen HB0.out hb⟩
  have d8 : decide (80 < (z : Int)) = false := by simp; omega
  clear h80
  have hf20 : n ≤ 20 := by have := (HP.out.1 rfl).1; have := HN.out; omega
  obtain ⟨nm, hnm⟩ := bool_of (nameP s)
  have HNM := Lib.hid hnm
  clear hnm
  go_wp2_with fail
  refine (name_any s _ hs nm HNM.out).mono ?_
  rintro e w1 ⟨rfl, hb⟩
  have HB1 := Lib.hid hb
  have k0 := cell_on hb g0
  have k1 := cell_on hb g1
  clear hb g0 g1
  have hns : nm = true → (s.toList == []) = false := fun h => str_ne_lit (l := []) (name_val (HNM.out.1 h)).2
  have HNS := Lib.hid hns
  clear hns
  obtain ⟨r, hr⟩ := bool_of (rightP L M)
  have HR := Lib.hid hr
  clear hr
  cases nm with
  | false =>
    go_wp2_with fail
    refine (right_any A B n c m d L M _ (HA0.out.keep (Nat.le_refl _) HB1.out) (HM0.out.keep (Nat.le_refl _) HB1.out) HN.out HM.out hnc hmd Ha.out Hb.out HL.out HLM.out hn2 hm2 r HR.out).mono ?_
    rintro e w2 ⟨rfl, hb⟩
    have HB2 := Lib.hid (bthen HB1.out hb)
    have l0 := cell_on hb k0
    have l1 := cell_on hb k1
    clear hb k0 k1
    cases r with
    | false =>
      go_wp2_with fail
      refine (alive_any _).mono ?_
      rintro e w1 ⟨rfl, hb⟩
      go_wp2_with fail
      go_ret
      exact ⟨rfl, bthen HB0.out (bthen HB2.out hb)⟩
    | true =>
      have HRP := Lib.hid (HR.out.1 (by simp))
      go_wp2_with fail
      go_loopw [7] (fun i wr => ∃ k : Nat, k ≤ n ∧ i = .int .i64 k ∧ Hid (Below W0.heap.size W0 wr) ∧ wr.cell? ⟨w.heap.size, 0, none⟩ = some (.slice A n c) ∧ wr.cell? ⟨w.heap.size, 1, none⟩ = some (.slice B m d)) (fun i _ => n - (intOf i).toNat)
      case atStart => exact ⟨0, Nat.zero_le _, rfl, HB2, l0, l1⟩
      case round =>
        obtain ⟨k, hk, rfl, HBW, j0, j1⟩ := hrel
        clear l0 l1
        by_cases hlt : k < n
        · have hkz : k < L.length := by have := HN.out; omega
          have hki : (k : Int) < (n : Int) := by omega
          have hk0 : (0 : Int) ≤ (k : Int) := by omega
          obtain ⟨b, off, hAe, c0⟩ := text_cell (HA0.out.keep (Nat.le_refl _) HBW.out) hkz
          obtain ⟨t, ht⟩ : ∃ t, t = L[k] := ⟨_, rfl⟩
          rw [← ht] at c0
          have HT := Lib.hid ht
          have HF1 := Lib.hid (show FirstAt L t (some k) by rw [ht]; exact apart_first (apart_left HRP.out.2.2.2.2) hkz)
          have HF2 := Lib.hid (show FirstAt M t none by rw [ht]; exact apart_none HRP.out.2.2.2.2 hkz)
          subst hAe
          clear ht
          go_wp2_with fail
          go_region_held3 (fun w' => (w'.cell? ⟨w.heap.size, 0, none⟩ = some (.slice (some ⟨b, off, none⟩) n c) ∧ w'.cell? ⟨w.heap.size, 1, none⟩ = some (.slice B m d) ∧ w'.cell? ⟨b, off + k, none⟩ = some (.string t)) ∧ Below W0.heap.size W0 w')
            (first
              | (go_split_ands
                 exact ⟨⟨cell_on hb (by assumption), cell_on hb (by assumption), cell_on hb (by assumption)⟩, bthen (by assumption) hb⟩)
              | exact ⟨⟨j0, j1, c0⟩, below_drewN HBW.out 1⟩)
            ((go_at_call 17; refine (dim_any _ _ n c m d L _ _ (HA0.out.keep (Nat.le_refl _) (by go_split_ands; assumption)) HN.out hn2).mono ?_; rintro e w6 ⟨⟨o, ho, rfl⟩, hb⟩; obtain rfl : o = some k := ho.uniq HF1.out))
          obtain ⟨⟨i0, i1, i2⟩, hbw⟩ : (w6.cell? ⟨w.heap.size, 0, none⟩ = some (.slice (some ⟨b, off, none⟩) n c) ∧ w6.cell? ⟨w.heap.size, 1, none⟩ = some (.slice B m d) ∧ w6.cell? ⟨b, off + k, none⟩ = some (.string t)) ∧ Below W0.heap.size W0 w6 := by assumption
          have HBW6 := Lib.hid hbw
          have HO6 := Lib.hid ho
          clear hbw ho hb j0 j1 c0
          go_wp2_with fail
          go_region_held3 (fun w' => (w'.cell? ⟨w.heap.size, 0, none⟩ = some (.slice (some ⟨b, off, none⟩) n c) ∧ w'.cell? ⟨w.heap.size, 1, none⟩ = some (.slice B m d) ∧ w'.cell? ⟨b, off + k, none⟩ = some (.string t)) ∧ Below W0.heap.size W0 w')
            (first
              | (go_split_ands
                 exact ⟨⟨cell_on hb (by assumption), cell_on hb (by assumption), cell_on hb (by assumption)⟩, bthen (by assumption) hb⟩)
              | exact ⟨⟨i0, i1, i2⟩, below_drewN HBW6.out 1⟩)
            ((go_at_call 18; refine (metric_any _ _ n c m d M _ _ (HM0.out.keep (Nat.le_refl _) (by go_split_ands; assumption)) HM.out hm2).mono ?_; rintro e w7 ⟨⟨o, ho, rfl⟩, hb⟩; obtain rfl : o = none := ho.uniq HF2.out))
          obtain ⟨⟨j0, j1, j2⟩, hbw⟩ : (w7.cell? ⟨w.heap.size, 0, none⟩ = some (.slice (some ⟨b, off, none⟩) n c) ∧ w7.cell? ⟨w.heap.size, 1, none⟩ = some (.slice B m d) ∧ w7.cell? ⟨b, off + k, none⟩ = some (.string t)) ∧ Below W0.heap.size W0 w7 := by assumption
          have HBW7 := Lib.hid hbw
          have HO7 := Lib.hid ho
          clear hbw ho hb i0 i1 i2
          go_wp2_with fail
          refine (name_any t _ (by rw [HT.out]; exact HL.out _ (List.getElem_mem _)) true ⟨fun _ => (by rw [HT.out]; exact HRP.out.2.2.2.1 _ (List.mem_append_left _ (List.getElem_mem _))), fun _ => rfl⟩).mono ?_
          rintro e w8 ⟨rfl, hb⟩
          have HBW8 := Lib.hid (bthen HBW7.out hb)
          have i0 := cell_on hb j0
          have i1 := cell_on hb j1
          clear hb j0 j1 j2 hlt
          go_wp2_with fail
          go_roundw
          case rel => exact ⟨k + 1, by omega, by go_num, HBW8, i0, i1⟩
          case measure => simp [intOf]; omega
        · have hge : ¬ (k : Int) < (n : Int) := by omega
          clear hlt
          go_wp2_with fail
          refine (alive_any _).mono ?_
          rintro e w3 ⟨rfl, hb⟩
          go_wp2_with fail
          go_ret
          exact ⟨rfl, bthen HB0.out (bthen HBW.out hb)⟩
  | true =>
    have hns := HNS.out (by simp)
    go_wp2_with fail
    refine (value_any s _ hs true ⟨fun _ => (name_val (HNM.out.1 (by simp))).1, fun _ => rfl⟩).mono ?_
    rintro e w1b ⟨rfl, hb⟩
    have HB1b := Lib.hid (bthen HB1.out hb)
    have k0b := cell_on hb k0
    have k1b := cell_on hb k1
    clear hb k0 k1
    go_wp2_with fail
    refine (right_any A B n c m d L M _ (HA0.out.keep (Nat.le_refl _) HB1b.out) (HM0.out.keep (Nat.le_refl _) HB1b.out) HN.out HM.out hnc hmd Ha.out Hb.out HL.out HLM.out hn2 hm2 r HR.out).mono ?_
    rintro e w2 ⟨rfl, hb⟩
    have HB2 := Lib.hid (bthen HB1b.out hb)
    have l0 := cell_on hb k0b
    have l1 := cell_on hb k1b
    clear hb k0b k1b hns
    cases r with
    | false =>
      go_wp2_with fail
      refine (alive_any _).mono ?_
      rintro e w1 ⟨rfl, hb⟩
      go_wp2_with fail
      go_ret
      exact ⟨rfl, bthen HB0.out (bthen HB2.out hb)⟩
    | true =>
      have HRP := Lib.hid (HR.out.1 (by simp))
      go_wp2_with fail
      go_loopw [7] (fun i wr => ∃ k : Nat, k ≤ n ∧ i = .int .i64 k ∧ Hid (Below W0.heap.size W0 wr) ∧ wr.cell? ⟨w.heap.size, 0, none⟩ = some (.slice A n c) ∧ wr.cell? ⟨w.heap.size, 1, none⟩ = some (.slice B m d)) (fun i _ => n - (intOf i).toNat)
      case atStart => exact ⟨0, Nat.zero_le _, rfl, HB2, l0, l1⟩
      case round =>
        obtain ⟨k, hk, rfl, HBW, j0, j1⟩ := hrel
        clear l0 l1
        by_cases hlt : k < n
        · have hkz : k < L.length := by have := HN.out; omega
          have hki : (k : Int) < (n : Int) := by omega
          have hk0 : (0 : Int) ≤ (k : Int) := by omega
          obtain ⟨b, off, hAe, c0⟩ := text_cell (HA0.out.keep (Nat.le_refl _) HBW.out) hkz
          obtain ⟨t, ht⟩ : ∃ t, t = L[k] := ⟨_, rfl⟩
          rw [← ht] at c0
          have HT := Lib.hid ht
          have HF1 := Lib.hid (show FirstAt L t (some k) by rw [ht]; exact apart_first (apart_left HRP.out.2.2.2.2) hkz)
          have HF2 := Lib.hid (show FirstAt M t none by rw [ht]; exact apart_none HRP.out.2.2.2.2 hkz)
          subst hAe
          clear ht
          go_wp2_with fail
          go_region_held3 (fun w' => (w'.cell? ⟨w.heap.size, 0, none⟩ = some (.slice (some ⟨b, off, none⟩) n c) ∧ w'.cell? ⟨w.heap.size, 1, none⟩ = some (.slice B m d) ∧ w'.cell? ⟨b, off + k, none⟩ = some (.string t)) ∧ Below W0.heap.size W0 w')
            (first
              | (go_split_ands
                 exact ⟨⟨cell_on hb (by assumption), cell_on hb (by assumption), cell_on hb (by assumption)⟩, bthen (by assumption) hb⟩)
              | exact ⟨⟨j0, j1, c0⟩, below_drewN HBW.out 1⟩)
            ((go_at_call 17; refine (dim_any _ _ n c m d L _ _ (HA0.out.keep (Nat.le_refl _) (by go_split_ands; assumption)) HN.out hn2).mono ?_; rintro e w6 ⟨⟨o, ho, rfl⟩, hb⟩; obtain rfl : o = some k := ho.uniq HF1.out))
          obtain ⟨⟨i0, i1, i2⟩, hbw⟩ : (w6.cell? ⟨w.heap.size, 0, none⟩ = some (.slice (some ⟨b, off, none⟩) n c) ∧ w6.cell? ⟨w.heap.size, 1, none⟩ = some (.slice B m d) ∧ w6.cell? ⟨b, off + k, none⟩ = some (.string t)) ∧ Below W0.heap.size W0 w6 := by assumption
          have HBW6 := Lib.hid hbw
          have HO6 := Lib.hid ho
          clear hbw ho hb j0 j1 c0
          go_wp2_with fail
          go_region_held3 (fun w' => (w'.cell? ⟨w.heap.size, 0, none⟩ = some (.slice (some ⟨b, off, none⟩) n c) ∧ w'.cell? ⟨w.heap.size, 1, none⟩ = some (.slice B m d) ∧ w'.cell? ⟨b, off + k, none⟩ = some (.string t)) ∧ Below W0.heap.size W0 w')
            (first
              | (go_split_ands
                 exact ⟨⟨cell_on hb (by assumption), cell_on hb (by assumption), cell_on hb (by assumption)⟩, bthen (by assumption) hb⟩)
              | exact ⟨⟨i0, i1, i2⟩, below_drewN HBW6.out 1⟩)
            ((go_at_call 18; refine (metric_any _ _ n c m d M _ _ (HM0.out.keep (Nat.le_refl _) (by go_split_ands; assumption)) HM.out hm2).mono ?_; rintro e w7 ⟨⟨o, ho, rfl⟩, hb⟩; obtain rfl : o = none := ho.uniq HF2.out))
          obtain ⟨⟨j0, j1, j2⟩, hbw⟩ : (w7.cell? ⟨w.heap.size, 0, none⟩ = some (.slice (some ⟨b, off, none⟩) n c) ∧ w7.cell? ⟨w.heap.size, 1, none⟩ = some (.slice B m d) ∧ w7.cell? ⟨b, off + k, none⟩ = some (.string t)) ∧ Below W0.heap.size W0 w7 := by assumption
          have HBW7 := Lib.hid hbw
          have HO7 := Lib.hid ho
          clear hbw ho hb i0 i1 i2
          go_wp2_with fail
          refine (name_any t _ (by rw [HT.out]; exact HL.out _ (List.getElem_mem _)) true ⟨fun _ => (by rw [HT.out]; exact HRP.out.2.2.2.1 _ (List.mem_append_left _ (List.getElem_mem _))), fun _ => rfl⟩).mono ?_
          rintro e w8 ⟨rfl, hb⟩
          have HBW8 := Lib.hid (bthen HBW7.out hb)
          have i0 := cell_on hb j0
          have i1 := cell_on hb j1
          clear hb j0 j1 j2 hlt
          go_wp2_with fail
          go_roundw
          case rel => exact ⟨k + 1, by omega, by go_num, HBW8, i0, i1⟩
          case measure => simp [intOf]; omega
        · have hge : ¬ (k : Int) < (n : Int) := by omega
          clear hlt
          go_wp2_with fail
          refine (alive_any _).mono ?_
          rintro e w3 ⟨rfl, hb⟩
          go_wp2_with fail
          go_ret
          exact ⟨rfl, bthen HB0.out (bthen HBW.out hb)⟩
end Go.Proofs.Ytbecgknahhhfiaa
