/- RowsFold. -/
import Derived.Test.YtlfhjjlgmhkepaaSM
import Derived.Test.YtlfhjjlgmhkepaaSL
import Derived.Test.YtlfhjjlgmhkepaaRP
namespace Go.Proofs.Ytlfhjjlgmhkepaa
open Go.RowKit Go.Shelf
set_option linter.unusedSimpArgs false
set_option linter.unusedVariables false
theorem fold_any (A : Option Addr) (n c : Nat) (Z : List RZ) (w : World) (hA : RowsC w A Z) (hn : n = Z.length) (hnc : n ≤ c) (ha : A = none → c = 0) (h19 : n ≤ 1000000) (hct : ∀ z ∈ Z, 0 ≤ z.2.count ∧ z.2.count ≤ 1048576) :
    Calls Try.prog 23 #[.slice A n c] w (FoldPost w Z) := by
  rcases Nat.eq_zero_or_pos n with h0 | h0
  · have hZ : Z = [] := List.eq_nil_of_length_eq_zero (by omega)
    subst hZ h0
    exact fold_zero A c w ha
  · exact fold_many A n c Z w hA hn hnc ha h0 h19 hct
theorem rowok_q {p q : Nat} {a : RV} (h : rowOk p q a.t a.count a.dims a.aggs) : RowQ q p a :=
  ⟨⟨by have := h.2.2.2.2.1; omega, h.2.2.2.2.2.1, h.2.1, h.2.2.2.2.2.2.2⟩, h.1⟩
theorem sorted_iff {p q : Nat} {K : List RV} (h : ∀ a ∈ K, RowQ q p a) : (∀ i (h : i + 1 < K.length), lessK (K[i]).t (K[i + 1]).t (K[i]).dims (K[i + 1]).dims = true) ↔ (∀ i (h : i + 1 < K.length), cmpK (K[i]).t (K[i + 1]).t (K[i]).dims (K[i + 1]).dims < 0) := by
  have e : ∀ i (hi : i + 1 < K.length), lessK (K[i]).t (K[i + 1]).t (K[i]).dims (K[i + 1]).dims = true ↔ cmpK (K[i]).t (K[i + 1]).t (K[i]).dims (K[i + 1]).dims < 0 := fun i hi => by
    rw [lessK_cmpK _ _ _ _ ((h _ (List.getElem_mem (by omega))).dims.trans (h _ (List.getElem_mem hi)).dims.symm)]
    simp
  exact ⟨fun g i hi => (e i hi).1 (g i hi), fun g i hi => (e i hi).2 (g i hi)⟩
set_option maxRecDepth 100000 in
set_option maxHeartbeats 16000000 in
theorem rfold_walk (A B C : Option Addr) (n c m d k cap : Nat) (L M : List ByteArray) (Z : List RZ) (w : World) (hA : Row w A (texts L)) (hB : Row w B (texts M)) (hC : Row w C (cellsR Z)) (hgd : ∀ z ∈ Z, Good0 w z) (hn : n = L.length) (hm : m = M.length) (hk : k = Z.length) (hnc : n ≤ c) (hmd : m ≤ d) (ha : A = none → c = 0) (hb : B = none → d = 0) (hkc : k ≤ cap) (hcn : C = none → cap = 0)
    (hL : ∀ s ∈ L, s.size ≤ 9223372036854775807) (hM : ∀ s ∈ M, s.size ≤ 9223372036854775807) (hn2 : n ≤ 9223372036854775807) (hm2 : m ≤ 9223372036854775807) (hk2 : k ≤ 9223372036854775807) (hsz : ∀ z ∈ Z, ∀ s ∈ z.2.dims, s.size ≤ 9223372036854775807) :
    Calls Try.prog 5 #[.agg #[.slice A n c, .slice B m d], .slice C k cap] w fun e w' => e = .returned (.bool true) ∧ Below w.heap.size w w' := by
  obtain ⟨W1, hW1⟩ : ∃ W1, W1 = w.alloc (.cells #[.slice A n c, .slice B m d] 24) := ⟨_, rfl⟩
  have hb1 : Below w.heap.size w W1 := by rw [hW1]; exact bpush (Below.refl _ _) _
  have HB1 := Lib.hid hb1
  have s0 : W1.cell? ⟨w.heap.size, 0, none⟩ = some (.slice A n c) := by rw [hW1]; exact cell_made rfl rfl
  have s1 : W1.cell? ⟨w.heap.size, 1, none⟩ = some (.slice B m d) := by rw [hW1]; exact cell_made rfl rfl
  obtain ⟨r, hr⟩ := bool_of (fitsRows L M (Z.map Prod.snd))
  have HR := Lib.hid hr
  have HFT := Lib.hid (fitsrows_any A B C n c m d k cap L M Z W1 (hA.keep (Nat.le_refl _) hb1) (hB.keep (Nat.le_refl _) hb1) (hC.keep (Nat.le_refl _) hb1) (fun z hz => (hgd z hz).keep hb1) hn hm hk hnc hmd ha hb hL hM hn2 hm2 hk2 hsz r hr)
  have HC := Lib.hid (hC.keep (Nat.le_refl _) hb1)
  have HGD := Lib.hid (fun z hz => (hgd z hz).keep hb1)
  have HK := Lib.hid hk
  have HKC := Lib.hid hkc
  have HCN := Lib.hid hcn
  have HW1 := Lib.hid hW1
  clear hA hB hC hgd hn hm hk hnc hmd ha hb hkc hcn hL hM hn2 hm2 hk2 hsz hr hW1 hb1
  go_enter Try.func5, Try.ntmps5
  go_upto_region 1 with fail
  rw [← HW1.out]
  go_upto_region 2 with (go_at_call 8; refine HFT.out.mono ?_; rintro e w1 ⟨rfl, hb⟩)
  have HBW := Lib.hid hb
  clear hb HFT s0 s1
  cases r with
  | false =>
    go_wp2_with (go_at_call 10; refine (alive_any _).mono ?_; rintro e w2 ⟨rfl, hb⟩)
    have HBX := Lib.hid (bthen HB1.out (bthen HBW.out hb))
    clear hb
    go_wp2_with fail
    go_ret
    exact ⟨rfl, HBX.out⟩
  | true =>
  have hft := HR.out.1 rfl
  have hk120 : k ≤ 120 := by have := hft.2.2.1; rw [List.length_map] at this; have := HK.out; omega
  have hn20 : L.length ≤ 1000000 := by have := hft.1.1; omega
  have hm20 : M.length ≤ 1000000 := by have := hft.2.1.1; omega
  have hro : ∀ z ∈ Z, rowOk L.length M.length z.2.t z.2.count z.2.dims z.2.aggs := fun z hz => hft.2.2.2.2 z.2 (List.mem_map.2 ⟨z, hz, rfl⟩)
  have hq : ∀ z ∈ Z, RowQ M.length L.length z.2 := fun z hz => rowok_q (hro z hz)
  have hqm : ∀ a ∈ Z.map Prod.snd, RowQ M.length L.length a := fun a ha => by obtain ⟨z, hz, rfl⟩ := List.mem_map.1 ha; exact hq z hz
  have hC1 : RowsC W1 C Z := ⟨HC.out, fun z hz => (HGD.out z hz).good (by rw [(hq z hz).dims]; exact hn20) (by rw [(hq z hz).ok.len]; exact hm20)⟩
  have HCC := Lib.hid (show ∀ W, Below W1.heap.size W1 W → RowsC W C Z from fun W hW => hC1.keep hW)
  have HCP := Lib.hid (copy_any C k cap Z w1 (HCC.out _ HBW.out) HK.out (by omega))
  have HFA := Lib.hid (show ∀ W, Below W1.heap.size W1 W → Calls Try.prog 23 #[.slice C k cap] W (FoldPost W Z) from fun W hW => fold_any C k cap Z W (HCC.out _ hW) HK.out HKC.out HCN.out (by omega) (fun z hz => ⟨(hq z hz).ok.lo, (hq z hz).ok.hi⟩))
  have HRF := Lib.hid (show ∀ W, Below W1.heap.size W1 W → Calls Try.prog 24 #[.slice C k cap] W (RefPost W Z) from fun W hW => reffold_any C k cap M.length L.length Z W (HCC.out _ hW) HK.out (by omega) hq)
  have HONE := Lib.hid (show ∀ K', SortsTo (Z.map Prod.snd) K' → foldL K' = refF [] (Z.map Prod.snd) from fun K' h => fold_one (q := M.length) h (fun a ha => (hqm a ha).ok))
  obtain ⟨so, hso⟩ := bool_of (∀ i (h : i + 1 < (Z.map Prod.snd).length), cmpK ((Z.map Prod.snd)[i]).t ((Z.map Prod.snd)[i + 1]).t ((Z.map Prod.snd)[i]).dims ((Z.map Prod.snd)[i + 1]).dims < 0)
  have HS1 := Lib.hid (show ∀ W, Below W1.heap.size W1 W → Calls Try.prog 25 #[.slice C k cap] W (fun e w' => e = .returned (.bool so) ∧ Below W.heap.size W w') from fun W hW => sorted_any C k cap _ W (HCC.out _ hW).rowsM (by rw [List.length_map]; exact HK.out) (by omega) so hso)
  have HS2 := Lib.hid (show ∀ W, Below W1.heap.size W1 W → Calls Try.prog 26 #[.slice C k cap] W (fun e w' => e = .returned (.bool so) ∧ Below W.heap.size W w') from fun W hW => refsorted_any C k cap _ W (HCC.out _ hW).rowsM (by rw [List.length_map]; exact HK.out) (by omega) so (by rw [hso]; exact (sorted_iff hqm).symm))
  clear hft hro hq hqm hC1 hso HR hn20 hm20
  go_upto_region 5 with (go_at_call 16; refine HCP.out.mono ?_; rintro e w2 ⟨v2, Y2, rfl, ho2, hm2, hy2, hb2⟩; obtain ⟨hk2, A2, c2, rfl, hr2, q1, q2, q3⟩ := own_sliceR ho2; have HK2 := Lib.hid hk2; have HHY2 := Lib.hid hy2; have HHR2 := Lib.hid hr2; have HM2 := Lib.hid hm2; have HHB2 := Lib.hid hb2; clear q1 q2 q3 hk2 ho2 hm2 hy2 hb2 hr2)
  have HY2 := Lib.hid (show RowsC w2 A2 Y2 from ⟨HHR2.out, fun y hy => (HHY2.out y hy).good⟩)
  have HBW := Lib.hid (bthen HBW.out HHB2.out)
  clear HCP HHR2 HHY2 HHB2
  go_upto_region 6 with (go_at_call 23; refine (HFA.out _ HBW.out).mono ?_; rintro e w3 ⟨v3, Y3, x3, K3, rfl, hs3, hf3, ho3, hy3, hb3⟩; obtain ⟨hk3, A3, c3, rfl, hr3, hc3, hm3, q3⟩ := own_sliceR ho3; clear hk3 q3; have HS3 := Lib.hid hs3; have HF3' := Lib.hid hf3; have HR3 := Lib.hid hr3; have HYY3 := Lib.hid hy3; have HB3 := Lib.hid hb3; have HC3 := Lib.hid hc3; have HM3 := Lib.hid hm3; clear hs3 hf3 ho3 hy3 hb3 hr3 hc3 hm3)
  have HY3 := Lib.hid (show RowsC w3 A3 Y3 from ⟨HR3.out, fun y hy => (HYY3.out y hy).good⟩)
  have HF3 := Lib.hid (HF3'.out.symm.trans (HONE.out K3 HS3.out))
  have HBW := Lib.hid (bthen HBW.out HB3.out)
  clear HFA HONE HF3'
  go_upto_region 7 with (go_at_call 24; refine (HRF.out _ HBW.out).mono ?_; rintro e w4 ⟨A4, Y4, c4, x4, rfl, hf4, hr4, hc4, hb4⟩; have HF4 := Lib.hid hf4; have HY4 := Lib.hid hr4; have HB4 := Lib.hid hb4; clear hf4 hr4 hc4 hb4)
  have HE := Lib.hid (HF3.out.trans HF4.out)
  have HEX := Lib.hid (show x3 = x4 from congrArg Prod.snd HE.out)
  have HEY := Lib.hid (show Y3.map Prod.snd = Y4.map Prod.snd from congrArg Prod.fst HE.out)
  obtain rfl : x3 = x4 := HEX.out
  have HBQ := Lib.hid (HB3.out.trans (HB4.out.mono HB3.out.size))
  have HBW := Lib.hid (bthen HBW.out HB4.out)
  have HL3 := Lib.hid (show Y3.length ≤ 9223372036854775807 by have := HM3.out; unfold maxLen at this; have := HC3.out; omega)
  have HL4 := Lib.hid (show Y4.length ≤ 9223372036854775807 by have h1 := congrArg List.length HEY.out; rw [List.length_map, List.length_map] at h1; have := HL3.out; omega)
  have HK9 := Lib.hid (show k ≤ 9223372036854775807 by omega)
  have HYA := Lib.hid (show Y2.map Prod.snd = Z.map Prod.snd from HM2.out)
  have hB13 := HBW.out
  clear HF4 HRF HF3 HE HEX hk120
  have HV2 := HBQ
  have HV3 := HB4
  have HV4 := Lib.hid (Below.refl w4.heap.size w4)
  clear HB3 HB4 HBQ
  go_wp2_with (first
    | (go_at_call 10; refine (alive_any _).mono ?_; rintro e w5 ⟨rfl, hb5⟩; have HBW := Lib.hid (bthen HBW.out hb5); have HV2 := Lib.hid (bthen HV2.out hb5); have HV3 := Lib.hid (bthen HV3.out hb5); have HV4 := Lib.hid (bthen HV4.out hb5); clear hb5)
    | (go_at_call_of 20 (Value.slice A3 Y3.length c3); refine (refrows_any A3 A4 Y3.length c3 Y4.length c4 (Y3.map Prod.snd) (Y4.map Prod.snd) _ (HY3.out.keep HV3.out).rowsM (HY4.out.keep HV4.out).rowsM (by rw [List.length_map]) (by rw [List.length_map]) HL3.out HL4.out true (by simp [HEY.out])).mono ?_; rintro e w6 ⟨rfl, hb6⟩; have HBW := Lib.hid (bthen HBW.out hb6); have HV2 := Lib.hid (bthen HV2.out hb6); have HV3 := Lib.hid (bthen HV3.out hb6); have HV4 := Lib.hid (bthen HV4.out hb6); clear hb6)
    | (go_at_call_of 20 (Value.slice C k cap); refine (refrows_any C A2 k cap k c2 (Z.map Prod.snd) (Y2.map Prod.snd) _ (HCC.out _ HBW.out).rowsM (HY2.out.keep HV2.out).rowsM (by rw [List.length_map]; exact HK.out) (by rw [List.length_map]; exact HK2.out) HK9.out HK9.out true (by simp [HYA.out])).mono ?_; rintro e w7 ⟨rfl, hb7⟩; have HBW := Lib.hid (bthen HBW.out hb7); have HV2 := Lib.hid (bthen HV2.out hb7); have HV3 := Lib.hid (bthen HV3.out hb7); have HV4 := Lib.hid (bthen HV4.out hb7); clear hb7)
    | (go_at_call 25; refine (HS1.out _ HBW.out).mono ?_; rintro e w8 ⟨rfl, hb8⟩; have HBW := Lib.hid (bthen HBW.out hb8); have HV2 := Lib.hid (bthen HV2.out hb8); have HV3 := Lib.hid (bthen HV3.out hb8); have HV4 := Lib.hid (bthen HV4.out hb8); clear hb8)
    | (go_at_call 26; refine (HS2.out _ HBW.out).mono ?_; rintro e w9 ⟨rfl, hb9⟩; have HBW := Lib.hid (bthen HBW.out hb9); have HV2 := Lib.hid (bthen HV2.out hb9); have HV3 := Lib.hid (bthen HV3.out hb9); have HV4 := Lib.hid (bthen HV4.out hb9); clear hb9))
  go_ret
  exact ⟨by simp, bthen HB1.out HBW.out⟩
end Go.Proofs.Ytlfhjjlgmhkepaa
