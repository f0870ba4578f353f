/- SchemaSubset's walk. -/
import Derived.Test.YtbecgknahhhfiaaR
namespace Go.Proofs.Ytbecgknahhhfiaa
open Go.RowKit
set_option linter.unusedSimpArgs false
set_option linter.unusedVariables false
set_option maxRecDepth 100000 in
set_option maxHeartbeats 8000000 in
theorem sub_walk (A B A2 A3 : Option Addr) (n c m d n2 c2 n3 c3 : Nat) (L M L2 L3 : List ByteArray) (w : World) (hA : Row w A (texts L)) (hB : Row w B (texts M)) (hA2 : Row w A2 (texts L2)) (hA3 : Row w A3 (texts L3))
    (hn : n = L.length) (hm : m = M.length) (hN2 : n2 = L2.length) (hN3 : n3 = L3.length) (hnc : n ≤ c) (hmd : m ≤ d) (hnc2 : n2 ≤ c2) (hnc3 : n3 ≤ c3) (ha : A = none → c = 0) (hb : B = none → d = 0)
    (hL : ∀ s ∈ L, s.size ≤ 9223372036854775807) (hM : ∀ s ∈ M, s.size ≤ 9223372036854775807) (hL2 : ∀ s ∈ L2, s.size ≤ 9223372036854775807) (hL3 : ∀ s ∈ L3, s.size ≤ 9223372036854775807)
    (hn2 : c ≤ 9223372036854775807) (hm2 : d ≤ 9223372036854775807) (hc2 : c2 ≤ 9223372036854775807) (hc3 : c3 ≤ 9223372036854775807) :
    Calls Try.prog 4 #[.agg #[.slice A n c, .slice B m d], .slice A2 n2 c2, .slice A3 n3 c3] w fun e w' => e = .returned (.bool true) ∧ Below w.heap.size w w' := by
  have HN := Lib.hid hn
  have HM := Lib.hid hm
  have HN2 := Lib.hid hN2
  have HN3 := Lib.hid hN3
  have Ha := Lib.hid ha
  have Hb := Lib.hid hb
  have hs := Lib.hid hL
  have hsm := Lib.hid hM
  have hsa := Lib.hid hL2
  have hsb := Lib.hid hL3
  obtain ⟨p, hp⟩ := bool_of (fitsP L)
  obtain ⟨q, hq⟩ := bool_of (fitsP L2)
  obtain ⟨o, ho⟩ := bool_of (fitsP L3)
  obtain ⟨r, hr⟩ := bool_of (rightP L M)
  obtain ⟨x, hx⟩ := bool_of (subsetP L2 L3)
  obtain ⟨y, hy⟩ := bool_of (subsetP L3 L)
  obtain ⟨z, hz⟩ := bool_of (subsetP L2 L)
  have HP := Lib.hid hp
  have HQ := Lib.hid hq
  have HO := Lib.hid ho
  have HRT := Lib.hid hr
  have HX := Lib.hid hx
  have HY := Lib.hid hy
  have HZ := Lib.hid hz
  have HXYZ := Lib.hid (show x = true → y = true → z = true from fun h k => hz.2 ⟨(hx.1 h).1, (hx.1 h).2.trans (hy.1 k).2⟩)
  have HXL := Lib.hid (show x = true → n2 ≤ n3 from fun h => by have := (hx.1 h).2.length_le; omega)
  have HZL := Lib.hid (show z = true → n2 ≤ n from fun h => by have := (hz.1 h).2.length_le; omega)
  have HSS := Lib.hid (show r = true → subsetP L L from fun h => ⟨⟨fun s hs => (hr.1 h).2.2.2.1 s (List.mem_append_left _ hs), apart_left (hr.1 h).2.2.2.2⟩, List.Sublist.refl _⟩)
  obtain ⟨W0, hW0⟩ : ∃ W0, W0 = w.alloc (.cells #[.slice A n c, .slice B m d] 24) := ⟨_, rfl⟩
  have hb0 : Below w.heap.size w W0 := by rw [hW0]; exact bpush (Below.refl _ _) _
  have g0 : W0.cell? ⟨w.heap.size, 0, none⟩ = some (.slice A n c) := by rw [hW0]; simp
  have j0 : W0.cell? ⟨w.heap.size, 1, none⟩ = some (.slice B m d) := by rw [hW0]; simp
  have HW0 := Lib.hid hW0
  have HB := Lib.hid hb0
  have HB0 := Lib.hid (Below.refl W0.heap.size W0)
  have HRs := Lib.hid (hA.keep (Nat.le_refl _) hb0)
  have HRm := Lib.hid (hB.keep (Nat.le_refl _) hb0)
  have HRa := Lib.hid (hA2.keep (Nat.le_refl _) hb0)
  have HRb := Lib.hid (hA3.keep (Nat.le_refl _) hb0)
  clear hp hq ho hr hx hy hz hW0 hb0 hA hB hA2 hA3 hn hm hN2 hN3 ha hb hL hM hL2 hL3
  go_enter Try.func4, Try.ntmps4
  go_wp2_with fail
  rw [← HW0.out]
  refine (fits_any A n c L _ HRs.out HN.out (by omega) p HP.out).mono ?_
  rintro e w1 ⟨rfl, rfl⟩
  go_wp2_with fail
  refine (fits_any A2 n2 c2 L2 _ HRa.out HN2.out (by omega) q HQ.out).mono ?_
  rintro e w1 ⟨rfl, rfl⟩
  go_wp2_with fail
  refine (fits_any A3 n3 c3 L3 _ HRb.out HN3.out (by omega) o HO.out).mono ?_
  rintro e w1 ⟨rfl, rfl⟩
  cases p with
  | false =>
    go_wp2_with fail
    refine (alive_any _).mono ?_
    rintro e w1 ⟨rfl, hb⟩
    have HB1 := Lib.hid (bthen HB0.out hb)
    have g1 := cell_on hb g0
    have j1 := cell_on hb j0
    clear hb g0 j0
    go_wp2_with fail
    go_ret
    exact ⟨rfl, bthen HB.out HB1.out⟩
  | true =>
  cases q with
  | false =>
    go_wp2_with fail
    refine (alive_any _).mono ?_
    rintro e w1 ⟨rfl, hb⟩
    have HB1 := Lib.hid (bthen HB0.out hb)
    have g1 := cell_on hb g0
    have j1 := cell_on hb j0
    clear hb g0 j0
    go_wp2_with fail
    go_ret
    exact ⟨rfl, bthen HB.out HB1.out⟩
  | true =>
  cases o with
  | false =>
    go_wp2_with fail
    refine (alive_any _).mono ?_
    rintro e w1 ⟨rfl, hb⟩
    have HB1 := Lib.hid (bthen HB0.out hb)
    have g1 := cell_on hb g0
    have j1 := cell_on hb j0
    clear hb g0 j0
    go_wp2_with fail
    go_ret
    exact ⟨rfl, bthen HB.out HB1.out⟩
  | true =>
  go_wp2_with fail
  refine (right_any A B n c m d L M _ HRs.out HRm.out HN.out HM.out hnc hmd Ha.out Hb.out hs.out hsm.out (by omega) (by omega) r HRT.out).mono ?_
  rintro e w1 ⟨rfl, hb⟩
  have HB1 := Lib.hid (bthen HB0.out hb)
  have g1 := cell_on hb g0
  have j1 := cell_on hb j0
  clear hb g0 j0
  cases r with
  | false =>
    go_wp2_with fail
    refine (alive_any _).mono ?_
    rintro e w2 ⟨rfl, hb⟩
    have HB2 := Lib.hid (bthen HB1.out hb)
    have g2 := cell_on hb g1
    have j2 := cell_on hb j1
    clear hb g1 j1
    go_wp2_with fail
    go_ret
    exact ⟨rfl, bthen HB.out HB2.out⟩
  | true =>
  go_wp2_with fail
  refine (subset_any A2 A3 n2 c2 n3 c3 L2 L3 _ (HRa.out.keep (Nat.le_refl _) HB1.out) (HRb.out.keep (Nat.le_refl _) HB1.out) HN2.out HN3.out hnc2 hnc3 hsa.out (by omega) (by omega) x HX.out).mono ?_
  rintro e w2 ⟨rfl, hb⟩
  have HB2 := Lib.hid (bthen HB1.out hb)
  have g2 := cell_on hb g1
  have j2 := cell_on hb j1
  clear hb g1 j1
  cases x with
  | false =>
    go_wp2_with fail
    refine (alive_any _).mono ?_
    rintro e w3 ⟨rfl, hb⟩
    have HB3 := Lib.hid (bthen HB2.out hb)
    have g3 := cell_on hb g2
    have j3 := cell_on hb j2
    clear hb g2 j2
    go_wp2_with fail
    refine (subset_any A A n c n c L L _ (HRs.out.keep (Nat.le_refl _) HB3.out) (HRs.out.keep (Nat.le_refl _) HB3.out) HN.out HN.out hnc hnc hs.out (by omega) (by omega) true ⟨fun _ => HSS.out (by simp), fun _ => rfl⟩).mono ?_
    rintro e w4 ⟨rfl, hb⟩
    have HB4 := Lib.hid (bthen HB3.out hb)
    have g4 := cell_on hb g3
    have j4 := cell_on hb j3
    clear hb g3 j3
    go_wp2_with fail
    refine (subset_any none A2 0 0 n2 c2 [] L2 _ (.inl rfl) (HRa.out.keep (Nat.le_refl _) HB4.out) rfl HN2.out (by omega) hnc2 (by simp) (by omega) (by omega) true ⟨fun _ => ⟨⟨by simp, fun i j _ h => by simp at h⟩, List.nil_sublist _⟩, fun _ => rfl⟩).mono ?_
    rintro e w5 ⟨rfl, hb⟩
    have HB5 := Lib.hid (bthen HB4.out hb)
    have g5 := cell_on hb g4
    have j5 := cell_on hb j4
    clear hb g4 j4
    go_wp2_with fail
    refine (subset_any A2 A n2 c2 n c L2 L _ (HRa.out.keep (Nat.le_refl _) HB5.out) (HRs.out.keep (Nat.le_refl _) HB5.out) HN2.out HN.out hnc2 hnc hsa.out (by omega) (by omega) z HZ.out).mono ?_
    rintro e w6 ⟨rfl, hb⟩
    have HB6 := Lib.hid (bthen HB5.out hb)
    have g6 := cell_on hb g5
    have j6 := cell_on hb j5
    clear hb g5 j5
    cases z with
    | false =>
      go_wp2_with fail
      refine (subset_any A2 A3 n2 c2 n3 c3 L2 L3 _ (HRa.out.keep (Nat.le_refl _) HB6.out) (HRb.out.keep (Nat.le_refl _) HB6.out) HN2.out HN3.out hnc2 hnc3 hsa.out (by omega) (by omega) false (by simpa using HX.out)).mono ?_
      rintro e w7 ⟨rfl, hb⟩
      have HB7 := Lib.hid (bthen HB6.out hb)
      have g7 := cell_on hb g6
      have j7 := cell_on hb j6
      clear hb g6 j6
      go_wp2_with fail
      go_ret
      exact ⟨rfl, bthen HB.out HB7.out⟩
    | true =>
      have hz1 : n2 ≤ n := HZL.out (by simp)
      have hz2 : (n2 : Int) ≤ (n : Int) := by omega
      go_wp2_with fail
      refine (subset_any A2 A3 n2 c2 n3 c3 L2 L3 _ (HRa.out.keep (Nat.le_refl _) HB6.out) (HRb.out.keep (Nat.le_refl _) HB6.out) HN2.out HN3.out hnc2 hnc3 hsa.out (by omega) (by omega) false (by simpa using HX.out)).mono ?_
      rintro e w7 ⟨rfl, hb⟩
      have HB7 := Lib.hid (bthen HB6.out hb)
      have g7 := cell_on hb g6
      have j7 := cell_on hb j6
      clear hb g6 j6
      go_wp2_with fail
      go_ret
      exact ⟨rfl, bthen HB.out HB7.out⟩
  | true =>
  go_wp2_with fail
  refine (subset_any A3 A n3 c3 n c L3 L _ (HRb.out.keep (Nat.le_refl _) HB2.out) (HRs.out.keep (Nat.le_refl _) HB2.out) HN3.out HN.out hnc3 hnc hsb.out (by omega) (by omega) y HY.out).mono ?_
  rintro e w3 ⟨rfl, hb⟩
  have HB3 := Lib.hid (bthen HB2.out hb)
  have g3 := cell_on hb g2
  have j3 := cell_on hb j2
  clear hb g2 j2
  cases y with
  | false =>
    go_wp2_with fail
    refine (alive_any _).mono ?_
    rintro e w4 ⟨rfl, hb⟩
    have HB4 := Lib.hid (bthen HB3.out hb)
    have g4 := cell_on hb g3
    have j4 := cell_on hb j3
    clear hb g3 j3
    go_wp2_with fail
    refine (subset_any A A n c n c L L _ (HRs.out.keep (Nat.le_refl _) HB4.out) (HRs.out.keep (Nat.le_refl _) HB4.out) HN.out HN.out hnc hnc hs.out (by omega) (by omega) true ⟨fun _ => HSS.out (by simp), fun _ => rfl⟩).mono ?_
    rintro e w5 ⟨rfl, hb⟩
    have HB5 := Lib.hid (bthen HB4.out hb)
    have g5 := cell_on hb g4
    have j5 := cell_on hb j4
    clear hb g4 j4
    go_wp2_with fail
    refine (subset_any none A2 0 0 n2 c2 [] L2 _ (.inl rfl) (HRa.out.keep (Nat.le_refl _) HB5.out) rfl HN2.out (by omega) hnc2 (by simp) (by omega) (by omega) true ⟨fun _ => ⟨⟨by simp, fun i j _ h => by simp at h⟩, List.nil_sublist _⟩, fun _ => rfl⟩).mono ?_
    rintro e w6 ⟨rfl, hb⟩
    have HB6 := Lib.hid (bthen HB5.out hb)
    have g6 := cell_on hb g5
    have j6 := cell_on hb j5
    clear hb g5 j5
    go_wp2_with fail
    refine (subset_any A2 A n2 c2 n c L2 L _ (HRa.out.keep (Nat.le_refl _) HB6.out) (HRs.out.keep (Nat.le_refl _) HB6.out) HN2.out HN.out hnc2 hnc hsa.out (by omega) (by omega) z HZ.out).mono ?_
    rintro e w7 ⟨rfl, hb⟩
    have HB7 := Lib.hid (bthen HB6.out hb)
    have g7 := cell_on hb g6
    have j7 := cell_on hb j6
    clear hb g6 j6
    cases z with
    | false =>
      have hl1 : n2 ≤ n3 := HXL.out (by simp)
      have hl2 : (n2 : Int) ≤ (n3 : Int) := by omega
      go_wp2_with fail
      refine (subset_any A2 A3 n2 c2 n3 c3 L2 L3 _ (HRa.out.keep (Nat.le_refl _) HB7.out) (HRb.out.keep (Nat.le_refl _) HB7.out) HN2.out HN3.out hnc2 hnc3 hsa.out (by omega) (by omega) true (by simpa using HX.out)).mono ?_
      rintro e w8 ⟨rfl, hb⟩
      have HB8 := Lib.hid (bthen HB7.out hb)
      have g8 := cell_on hb g7
      have j8 := cell_on hb j7
      clear hb g7 j7
      go_wp2_with fail
      go_ret
      exact ⟨rfl, bthen HB.out HB8.out⟩
    | true =>
      have hz1 : n2 ≤ n := HZL.out (by simp)
      have hz2 : (n2 : Int) ≤ (n : Int) := by omega
      have hl1 : n2 ≤ n3 := HXL.out (by simp)
      have hl2 : (n2 : Int) ≤ (n3 : Int) := by omega
      go_wp2_with fail
      refine (subset_any A2 A3 n2 c2 n3 c3 L2 L3 _ (HRa.out.keep (Nat.le_refl _) HB7.out) (HRb.out.keep (Nat.le_refl _) HB7.out) HN2.out HN3.out hnc2 hnc3 hsa.out (by omega) (by omega) true (by simpa using HX.out)).mono ?_
      rintro e w8 ⟨rfl, hb⟩
      have HB8 := Lib.hid (bthen HB7.out hb)
      have g8 := cell_on hb g7
      have j8 := cell_on hb j7
      clear hb g7 j7
      go_wp2_with fail
      go_ret
      exact ⟨rfl, bthen HB.out HB8.out⟩
  | true =>
  obtain rfl : z = true := HXYZ.out (by simp) (by simp)
  go_wp2_with fail
  refine (subset_any A2 A n2 c2 n c L2 L _ (HRa.out.keep (Nat.le_refl _) HB3.out) (HRs.out.keep (Nat.le_refl _) HB3.out) HN2.out HN.out hnc2 hnc hsa.out (by omega) (by omega) true (by simpa using HZ.out)).mono ?_
  rintro e w4 ⟨rfl, hb⟩
  have HB4 := Lib.hid (bthen HB3.out hb)
  have g4 := cell_on hb g3
  have j4 := cell_on hb j3
  clear hb g3 j3
  go_wp2_with fail
  refine (alive_any _).mono ?_
  rintro e w5 ⟨rfl, hb⟩
  have HB5 := Lib.hid (bthen HB4.out hb)
  have g5 := cell_on hb g4
  have j5 := cell_on hb j4
  clear hb g4 j4
  go_wp2_with fail
  refine (subset_any A A n c n c L L _ (HRs.out.keep (Nat.le_refl _) HB5.out) (HRs.out.keep (Nat.le_refl _) HB5.out) HN.out HN.out hnc hnc hs.out (by omega) (by omega) true ⟨fun _ => HSS.out (by simp), fun _ => rfl⟩).mono ?_
  rintro e w6 ⟨rfl, hb⟩
  have HB6 := Lib.hid (bthen HB5.out hb)
  have g6 := cell_on hb g5
  have j6 := cell_on hb j5
  clear hb g5 j5
  go_wp2_with fail
  refine (subset_any none A2 0 0 n2 c2 [] L2 _ (.inl rfl) (HRa.out.keep (Nat.le_refl _) HB6.out) rfl HN2.out (by omega) hnc2 (by simp) (by omega) (by omega) true ⟨fun _ => ⟨⟨by simp, fun i j _ h => by simp at h⟩, List.nil_sublist _⟩, fun _ => rfl⟩).mono ?_
  rintro e w7 ⟨rfl, hb⟩
  have HB7 := Lib.hid (bthen HB6.out hb)
  have g7 := cell_on hb g6
  have j7 := cell_on hb j6
  clear hb g6 j6
  go_wp2_with fail
  refine (subset_any A2 A n2 c2 n c L2 L _ (HRa.out.keep (Nat.le_refl _) HB7.out) (HRs.out.keep (Nat.le_refl _) HB7.out) HN2.out HN.out hnc2 hnc hsa.out (by omega) (by omega) true (by simpa using HZ.out)).mono ?_
  rintro e w8 ⟨rfl, hb⟩
  have HB8 := Lib.hid (bthen HB7.out hb)
  have g8 := cell_on hb g7
  have j8 := cell_on hb j7
  clear hb g7 j7
  have hz1 : n2 ≤ n := HZL.out (by simp)
  have hz2 : (n2 : Int) ≤ (n : Int) := by omega
  have hl1 : n2 ≤ n3 := HXL.out (by simp)
  have hl2 : (n2 : Int) ≤ (n3 : Int) := by omega
  go_wp2_with fail
  refine (subset_any A2 A3 n2 c2 n3 c3 L2 L3 _ (HRa.out.keep (Nat.le_refl _) HB8.out) (HRb.out.keep (Nat.le_refl _) HB8.out) HN2.out HN3.out hnc2 hnc3 hsa.out (by omega) (by omega) true (by simpa using HX.out)).mono ?_
  rintro e w9 ⟨rfl, hb⟩
  have HB9 := Lib.hid (bthen HB8.out hb)
  have g9 := cell_on hb g8
  have j9 := cell_on hb j8
  clear hb g8 j8
  go_wp2_with fail
  go_ret
  exact ⟨rfl, bthen HB.out HB9.out⟩
end Go.Proofs.Ytbecgknahhhfiaa
