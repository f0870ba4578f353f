/- RowsOwn. -/
import Derived.Test.YtlfhjjlgmhkepaaSN
namespace Go.Proofs.Ytlfhjjlgmhkepaa
open Go.RowKit Go.Shelf
set_option linter.unusedSimpArgs false
set_option linter.unusedVariables false
/-- Rows of one's own whose lists are written to: what stays of their shape. -/
structure Tw (B gx : Nat) (Y : List RZ) (W : World) : Prop where
  x : ∃ cx, Blk W gx 27 cx ∧ Y.length * 4 ≤ cx.size ∧ ∀ j (h : j < Y.length), cx[j * 4 + 1]? = some (.slice Y[j].1.D Y[j].1.n Y[j].1.c) ∧ cx[j * 4 + 3]? = some (.slice Y[j].1.G Y[j].1.gn Y[j].1.gc)
  bx : B ≤ gx
  d : ∀ y ∈ Y, ∃ g, y.1.D = some ⟨g, 0, none⟩ ∧ B ≤ g ∧ ∃ cur, Blk W g 9 cur ∧ 1 ≤ cur.size
  g : ∀ y ∈ Y, y.1.gn = 0 ∨ ∃ g, y.1.G = some ⟨g, 0, none⟩ ∧ B ≤ g ∧ ∃ cur, Blk W g 51 cur ∧ y.1.gn * 3 ≤ cur.size
theorem blk_one {W : World} {g : Nat} {t u : TypeId} {a b : Array Value} (h : Blk W g t a) (k : Blk W g u b) : t = u := by
  have := h.symm.trans k
  simp at this
  exact this.2
theorem Blk.any_set {W : World} {g : Nat} {t : TypeId} {cs : Array Value} (h : Blk W g t cs) (b o : Nat) (v : Value) : ∃ cs', Blk (W.setCell ⟨b, o, none⟩ v) g t cs' ∧ cs'.size = cs.size ∧ (b ≠ g → cs' = cs) ∧ ∀ i, i ≠ o → cs'[i]? = cs[i]? := by
  by_cases e : g = b
  · subst e
    exact ⟨_, h.set_ o v, by simp, fun h => absurd rfl h, fun i hi => by rw [Array.getElem?_setIfInBounds_ne (Ne.symm hi)]⟩
  · exact ⟨cs, h.far e v, rfl, fun _ => rfl, fun _ _ => rfl⟩
theorem Tw.set {B gx : Nat} {Y : List RZ} {W : World} (h : Tw B gx Y W) (b o : Nat) (v : Value) (hb : b ≠ gx ∨ ∃ j, o = j * 4 + 2) : Tw B gx Y (W.setCell ⟨b, o, none⟩ v) := by
  obtain ⟨⟨cx, h1, h2, h3⟩, hbx, hd, hg⟩ := h
  refine ⟨?_, hbx, fun y hy => ?_, fun y hy => ?_⟩
  · obtain ⟨cs', k1, k2, k3, k4⟩ := h1.any_set b o v
    refine ⟨cs', k1, by omega, fun j hj => ?_⟩
    rcases hb with hb | ⟨i, rfl⟩
    · rw [k3 hb]; exact h3 j hj
    · rw [k4 _ (by omega), k4 _ (by omega)]; exact h3 j hj
  · obtain ⟨g, e, hB, cur, k, hs⟩ := hd y hy
    obtain ⟨cs', k1, k2, _, _⟩ := k.any_set b o v
    exact ⟨g, e, hB, cs', k1, by omega⟩
  · rcases hg y hy with h0 | ⟨g, e, hB, cur, k, hs⟩
    · exact .inl h0
    · obtain ⟨cs', k1, k2, _, _⟩ := k.any_set b o v
      exact .inr ⟨g, e, hB, cs', k1, by omega⟩
theorem Tw.start {B : Nat} {Y : List RZ} {W : World} {A : Option Addr} {n c : Nat} (ho : W.ownsRow B 27 4 (.slice A n c) n (cellsR Y)) (hn : n = Y.length) (hp : 1 ≤ Y.length) (hy : ∀ y ∈ Y, Owned B W y) (hd : ∀ y ∈ Y, 1 ≤ y.2.dims.length) : ∃ gx, A = some ⟨gx, 0, none⟩ ∧ Tw B gx Y W := by
  rcases ho.2 with ⟨_, h0⟩ | ⟨gx, cap, cur, he, hB, hc, h1, h2, h3, h4⟩
  · omega
  · cases he
    have hlen := cellsR_length Y
    have hsz : Y.length * 4 ≤ cur.size := by
      have := congrArg List.length h4
      rw [hlen, List.length_take] at this
      simp at this
      omega
    have hat : ∀ i, i < n * 4 → cur[i]? = (cellsR Y)[i]? := fun i hi => by
      rw [← h4, List.getElem?_take, if_pos hi, Array.getElem?_toList]
    refine ⟨gx, rfl, ⟨cur, hc, hsz, fun j hj => ⟨?_, ?_⟩⟩, hB, fun y hyy => ?_, fun y hyy => ?_⟩
    · rw [hat _ (by omega)]; exact cellsR_get Y j hj 1 _ rfl
    · rw [hat _ (by omega)]; exact cellsR_get Y j hj 3 _ rfl
    · have hyo := (hy y hyy).d
      have hy1 := hd y hyy
      have hl := hyo.1
      rcases hyo.2 with ⟨e, h0⟩ | ⟨g, cap', cur', he, hB', hc', q1, q2, q3, q4⟩
      · unfold texts at hl; simp at hl; omega
      · have hDe : y.1.D = some ⟨g, 0, none⟩ := by have := he; injection this
        refine ⟨g, hDe, hB', cur', hc', ?_⟩
        have := congrArg List.length q4
        unfold texts at hl this
        rw [List.length_take] at this
        simp at this hl
        omega
    · have hyo := (hy y hyy).g
      have hl := hyo.1
      rcases hyo.2 with ⟨e, h0⟩ | ⟨g, cap', cur', he, hB', hc', q1, q2, q3, q4⟩
      · left; exact h0
      · right
        have hDe : y.1.G = some ⟨g, 0, none⟩ := by have := he; injection this
        refine ⟨g, hDe, hB', cur', hc', ?_⟩
        have := congrArg List.length q4
        rw [List.length_take] at this
        simp at this
        omega
/-- A row's cells, ahead of its being written to. -/
theorem Tw.at {B gx : Nat} {Y : List RZ} {W : World} (h : Tw B gx Y W) {j : Nat} (hj : j < Y.length) : W.cell? ⟨gx, j * 4 + 1, none⟩ = some (.slice Y[j].1.D Y[j].1.n Y[j].1.c) ∧ W.cell? ⟨gx, j * 4 + 3, none⟩ = some (.slice Y[j].1.G Y[j].1.gn Y[j].1.gc) ∧ (∃ u, W.cell? ⟨gx, j * 4 + 2, none⟩ = some u) ∧ ∀ o, W.frozen? ⟨gx, o, none⟩ = false := by
  obtain ⟨cx, h1, h2, h3⟩ := h.x
  refine ⟨by rw [h1.cell]; exact (h3 j hj).1, by rw [h1.cell]; exact (h3 j hj).2, ?_, fun o => h1.frozen o⟩
  have : j * 4 + 2 < cx.size := by omega
  exact ⟨_, by rw [h1.cell]; exact Array.getElem?_eq_getElem this⟩
theorem Tw.dim {B gx : Nat} {Y : List RZ} {W : World} (h : Tw B gx Y W) {j : Nat} (hj : j < Y.length) : ∃ g, Y[j].1.D = some ⟨g, 0, none⟩ ∧ B ≤ g ∧ g ≠ gx ∧ (∃ u, W.cell? ⟨g, 0, none⟩ = some u) ∧ W.frozen? ⟨g, 0, none⟩ = false := by
  obtain ⟨g, e, hB, cur, k, hs⟩ := h.d _ (List.getElem_mem hj)
  obtain ⟨cx, h1, _⟩ := h.x
  refine ⟨g, e, hB, fun e => ?_, ⟨_, by rw [k.cell]; exact Array.getElem?_eq_getElem (by omega)⟩, k.frozen 0⟩
  subst e
  have := blk_one k h1
  cases this
theorem Tw.agg {B gx : Nat} {Y : List RZ} {W : World} (h : Tw B gx Y W) {j k : Nat} (hj : j < Y.length) (hk : k < Y[j].1.gn) : ∃ g, Y[j].1.G = some ⟨g, 0, none⟩ ∧ B ≤ g ∧ g ≠ gx ∧ (∃ u, W.cell? ⟨g, k * 3, none⟩ = some u) ∧ (∃ u, W.cell? ⟨g, k * 3 + 1, none⟩ = some u) ∧ (∃ u, W.cell? ⟨g, k * 3 + 2, none⟩ = some u) ∧ ∀ o, W.frozen? ⟨g, o, none⟩ = false := by
  rcases h.g _ (List.getElem_mem hj) with h0 | ⟨g, e, hB, cur, kk, hs⟩
  · omega
  · obtain ⟨cx, h1, _⟩ := h.x
    refine ⟨g, e, hB, fun e => ?_, ⟨_, by rw [kk.cell]; exact Array.getElem?_eq_getElem (by omega)⟩, ⟨_, by rw [kk.cell]; exact Array.getElem?_eq_getElem (by omega)⟩, ⟨_, by rw [kk.cell]; exact Array.getElem?_eq_getElem (by omega)⟩, kk.frozen⟩
    subst e
    have := blk_one kk h1
    cases this
def TW0 (A : Option Addr) (B : Nat) (Y : List RZ) (W : World) : Prop := Y.length = 0 ∨ ∃ gx, A = some ⟨gx, 0, none⟩ ∧ Tw B gx Y W
set_option maxRecDepth 100000 in
set_option maxHeartbeats 16000000 in
theorem own_walk (A B C : Option Addr) (n c m d k cap : Nat) (L M : List ByteArray) (Z : List RZ) (w : World) (hA : Row w A (texts L)) (hB : Row w B (texts M)) (hC : Row w C (cellsR Z)) (hgd : ∀ z ∈ Z, Good0 w z) (hn : n = L.length) (hm : m = M.length) (hk : k = Z.length) (hnc : n ≤ c) (hmd : m ≤ d) (ha : A = none → c = 0) (hb : B = none → d = 0) (hkc : k ≤ cap) (hcn : C = none → cap = 0)
    (hL : ∀ s ∈ L, s.size ≤ 9223372036854775807) (hM : ∀ s ∈ M, s.size ≤ 9223372036854775807) (hn2 : n ≤ 9223372036854775807) (hm2 : m ≤ 9223372036854775807) (hk2 : k ≤ 9223372036854775807) (hsz : ∀ z ∈ Z, ∀ s ∈ z.2.dims, s.size ≤ 9223372036854775807) :
    Calls Try.prog 6 #[.agg #[.slice A n c, .slice B m d], .slice C k cap] w fun e w' => e = .returned (.bool true) ∧ Below w.heap.size w w' := by
  obtain ⟨W1, hW1⟩ : ∃ W1, W1 = w.alloc (.cells #[.slice A n c, .slice B m d] 24) := ⟨_, rfl⟩
  have hb1 : Below w.heap.size w W1 := by rw [hW1]; exact bpush (Below.refl _ _) _
  have HB1 := Lib.hid hb1
  have s0 : W1.cell? ⟨w.heap.size, 0, none⟩ = some (.slice A n c) := by rw [hW1]; exact cell_made rfl rfl
  have s1 : W1.cell? ⟨w.heap.size, 1, none⟩ = some (.slice B m d) := by rw [hW1]; exact cell_made rfl rfl
  obtain ⟨r, hr⟩ := bool_of (fitsRows L M (Z.map Prod.snd))
  have HR := Lib.hid hr
  have HFT := Lib.hid (fitsrows_any A B C n c m d k cap L M Z W1 (hA.keep (Nat.le_refl _) hb1) (hB.keep (Nat.le_refl _) hb1) (hC.keep (Nat.le_refl _) hb1) (fun z hz => (hgd z hz).keep hb1) hn hm hk hnc hmd ha hb hL hM hn2 hm2 hk2 hsz r hr)
  have HC := Lib.hid (hC.keep (Nat.le_refl _) hb1)
  have HGD := Lib.hid (fun z hz => (hgd z hz).keep hb1)
  have HK := Lib.hid hk
  have HKC := Lib.hid hkc
  have HCN := Lib.hid hcn
  have HW1 := Lib.hid hW1
  clear hA hB hC hgd hn hm hk hnc hmd ha hb hkc hcn hL hM hn2 hm2 hk2 hsz hr hW1 hb1
  go_enter Try.func6, Try.ntmps6
  go_upto_region 1 with fail
  rw [← HW1.out]
  go_upto_region 2 with (go_at_call 8; refine HFT.out.mono ?_; rintro e w1 ⟨rfl, hb⟩)
  have HBW := Lib.hid hb
  clear hb HFT s0 s1
  cases r with
  | false =>
    go_wp2_with (go_at_call 10; refine (alive_any _).mono ?_; rintro e w2 ⟨rfl, hb⟩)
    have HBX := Lib.hid (bthen HB1.out (bthen HBW.out hb))
    clear hb
    go_wp2_with fail
    go_ret
    exact ⟨rfl, HBX.out⟩
  | true =>
  have hft := HR.out.1 rfl
  have hk120 : k ≤ 120 := by have := hft.2.2.1; rw [List.length_map] at this; have := HK.out; omega
  have hn20 : L.length ≤ 1000000 := by have := hft.1.1; omega
  have hm20 : M.length ≤ 1000000 := by have := hft.2.1.1; omega
  have hro : ∀ z ∈ Z, rowOk L.length M.length z.2.t z.2.count z.2.dims z.2.aggs := fun z hz => hft.2.2.2.2 z.2 (List.mem_map.2 ⟨z, hz, rfl⟩)
  have hq : ∀ z ∈ Z, RowQ M.length L.length z.2 := fun z hz => rowok_q (hro z hz)
  have hqm : ∀ a ∈ Z.map Prod.snd, RowQ M.length L.length a := fun a ha => by obtain ⟨z, hz, rfl⟩ := List.mem_map.1 ha; exact hq z hz
  have hC1 : RowsC W1 C Z := ⟨HC.out, fun z hz => (HGD.out z hz).good (by rw [(hq z hz).dims]; exact hn20) (by rw [(hq z hz).ok.len]; exact hm20)⟩
  have HCC := Lib.hid (show ∀ W, Below W1.heap.size W1 W → RowsC W C Z from fun W hW => hC1.keep hW)
  have HCP := Lib.hid (copy_any C k cap Z w1 (HCC.out _ HBW.out) HK.out (by omega))
  have HFA := Lib.hid (show ∀ W, Below W1.heap.size W1 W → Calls Try.prog 23 #[.slice C k cap] W (FoldPost W Z) from fun W hW => fold_any C k cap Z W (HCC.out _ hW) HK.out HKC.out HCN.out (by omega) (fun z hz => ⟨(hq z hz).ok.lo, (hq z hz).ok.hi⟩))
  have hdq : 1 ≤ L.length := hft.2.2.2.1.1
  have HDZ := Lib.hid (show ∀ z ∈ Z, 1 ≤ z.2.dims.length from fun z hz => by rw [(hq z hz).dims]; exact hdq)
  have HK120 := Lib.hid hk120
  have HONE := Lib.hid (show ∀ K', SortsTo (Z.map Prod.snd) K' → ((foldL K').2 = 0 ∨ (foldL K').2 = 121) ∧ ∀ y ∈ (foldL K').1, 1 ≤ y.dims.length from fun K' h => by
    have hK' : ∀ a ∈ K', RowQ M.length L.length a := fun a ha => hqm a (h.mem ha)
    rcases foldL_all (q := M.length) K'.length K' (Nat.le_refl _) h.sorted (fun a ha => (hK' a ha).ok) with ⟨h1, h2, h3⟩ | ⟨h1, h2, _⟩
    · refine ⟨.inl h1, fun y hy => ?_⟩
      obtain ⟨a, ha, hya⟩ := h3 y hy
      rw [(cmpV_zero.1 hya).1, (hK' a ha).dims]; exact hdq
    · exact ⟨.inr h1, fun y hy => by rw [h2] at hy; cases hy⟩)
  clear hft hro hq hqm hC1 HR hn20 hm20 hdq
  go_upto_region 5 with (go_at_call 16; refine HCP.out.mono ?_; rintro e w2 ⟨v2, Y2, rfl, ho2, hm2, hy2, hb2⟩; obtain ⟨hk2, A2, c2, rfl, hr2, q1, q2, q3⟩ := own_sliceR ho2; have HK2 := Lib.hid hk2; have HHY2 := Lib.hid hy2; have HHR2 := Lib.hid hr2; have HM2 := Lib.hid hm2; have HHB2 := Lib.hid hb2; clear q1 q2 q3 hk2 ho2 hm2 hy2 hb2 hr2)
  have HY2 := Lib.hid (show RowsC w2 A2 Y2 from ⟨HHR2.out, fun y hy => (HHY2.out y hy).good⟩)
  have HBW := Lib.hid (bthen HBW.out HHB2.out)
  have HB12 := Lib.hid (show W1.heap.size ≤ w2.heap.size from HBW.out.size)
  clear HCP HHR2 HHY2 HHB2
  go_upto_region 6 with (go_at_call 23; refine (HFA.out _ HBW.out).mono ?_; rintro e w3 ⟨v3, Y3, x3, K3, rfl, hs3, hf3, ho3, hy3, hb3⟩; obtain ⟨hk3, A3, c3, rfl, hr3, hc3, hm3, q3⟩ := own_sliceR ho3; clear hk3 q3; have HS3 := Lib.hid hs3; have HF3' := Lib.hid hf3; have HR3 := Lib.hid hr3; have HYY3 := Lib.hid hy3; have HB3 := Lib.hid hb3; have HC3 := Lib.hid hc3; have HM3 := Lib.hid hm3; have HOW := Lib.hid ho3; clear hs3 hf3 ho3 hy3 hb3 hr3 hc3 hm3)
  have HY3 := Lib.hid (show RowsC w3 A3 Y3 from ⟨HR3.out, fun y hy => (HYY3.out y hy).good⟩)
  have HERR := Lib.hid (show x3 = 0 ∨ x3 = 121 by have h := (HONE.out K3 HS3.out).1; rw [HF3'.out] at h; exact h)
  have HDM := Lib.hid (show ∀ y ∈ Y3, 1 ≤ y.2.dims.length from fun y hy => by
    have h := (HONE.out K3 HS3.out).2
    rw [HF3'.out] at h
    exact h y.2 (List.mem_map.2 ⟨y, hy, rfl⟩))
  have HND := Lib.hid (show ∀ y ∈ Y3, 1 ≤ y.1.n ∧ y.1.gn ≤ 9223372036854775807 from fun y hy => by have h1 := ((HYY3.out y hy).good).nd; have h2 := HDM.out y hy; have h3 := (HYY3.out y hy).sg; omega)
  have HTW := Lib.hid (show TW0 A3 w2.heap.size Y3 w3 from by
    rcases Nat.eq_zero_or_pos Y3.length with h0 | h0
    · exact .inl h0
    · exact .inr (Tw.start HOW.out rfl h0 HYY3.out HDM.out))
  have HV2 := HB3
  have HBW := Lib.hid (bthen HBW.out HB3.out)
  have HYA := Lib.hid (show Y2.map Prod.snd = Z.map Prod.snd from HM2.out)
  have HK9 := Lib.hid (show k ≤ 9223372036854775807 by omega)
  have HB12 := Lib.hid (show W1.heap.size ≤ w2.heap.size from by have := HB12.out; exact this)
  obtain ⟨ln, hln⟩ : ∃ ln, ln = Y3.length := ⟨_, rfl⟩
  have HLN := Lib.hid hln
  have hln9 : ln ≤ 9223372036854775807 := by have h1 := HM3.out; unfold maxLen at h1; have h2 := HC3.out; omega
  rw [← hln]
  clear hln HFA HONE HF3' HS3 HR3 HYY3 HOW HB3 HC3 HM3 HDM hk120
  go_wp2_with fail
  go_loopw [9] (fun v9 wr => ∃ i : Nat, v9 = .int .i64 i ∧ i ≤ ln ∧ Hid (TW0 A3 w2.heap.size Y3 wr) ∧ Hid (Below w2.heap.size w2 wr) ∧ Hid (Below W1.heap.size W1 wr)) (fun v9 _ => ln - (intOf v9).toNat)
  case atStart => exact ⟨0, rfl, Nat.zero_le _, HTW, HV2, HBW⟩
  case round =>
    clear HTW HV2 HBW
    obtain ⟨i, rfl, hil, HTW, HV2, HBW⟩ := hrel
    obtain ⟨wo, rfl⟩ : ∃ wo : World, wo = wr := ⟨_, rfl⟩
    by_cases hlt : i < ln
    case pos =>
      have hltz : (i : Int) < (ln : Int) := by omega
      have hi0 : (0 : Int) ≤ (i : Int) := by omega
      have hiY : i < Y3.length := by have := HLN.out; omega
      obtain ⟨gx, hgx, htw⟩ : ∃ gx, A3 = some ⟨gx, 0, none⟩ ∧ Tw w2.heap.size gx Y3 wo := by
        rcases HTW.out with h0 | h0
        · omega
        · exact h0
      subst hgx
      have HT := Lib.hid htw
      obtain ⟨a1, a3, ⟨u2, a2⟩, af⟩ := htw.at hiY
      obtain ⟨gD, hD, hgB, hgne, ⟨ud, ad⟩, afd⟩ := htw.dim hiY
      obtain ⟨hnd, hgn9⟩ := HND.out _ (List.getElem_mem hiY)
      obtain ⟨y, hy⟩ : ∃ y, y = Y3[i] := ⟨_, rfl⟩
      rw [← hy] at a1 a3 hD hnd hgn9
      have HY := Lib.hid hy
      clear hy
      obtain ⟨⟨D2, n2, c2', G2, gn2, gc2⟩, ⟨t2, L2, q2, X2⟩⟩ := y
      simp only at a1 a3 hD hnd hgn9
      subst hD
      have hndz : (0 : Int) < (n2 : Int) := by omega
      have f1 := af (i * 4 + 1)
      have hxb : w2.heap.size ≤ gx := htw.bx
      clear htw af HTW a2 a3
      go_upto_region 10 with fail
      obtain ⟨wb, hwb⟩ : ∃ wb, wb = wo.setCell ⟨gD, 0, none⟩ (.string ⟨#[116, 117, 114, 110, 101, 100]⟩) := ⟨_, rfl⟩
      have htb : Tw w2.heap.size gx Y3 wb := by rw [hwb]; exact HT.out.set gD 0 _ (.inl hgne)
      have HVb := Lib.hid (show Below w2.heap.size w2 wb by rw [hwb]; exact bset HV2.out hgB _)
      have HBb := Lib.hid (show Below W1.heap.size W1 wb by rw [hwb]; exact bset HBW.out (by have := HB12.out; omega) _)
      rw [← hwb]
      obtain ⟨a1, a3, ⟨u2, a2⟩, af⟩ := htb.at hiY
      have f2 := af (i * 4 + 2)
      have HT := Lib.hid htb
      clear hwb htb a1 a3 ad afd f1 af HV2 HBW
      go_upto_region 11 with fail
      obtain ⟨wd, hwd⟩ : ∃ wd, wd = wb.setCell ⟨gx, i * 4 + 2, none⟩ (.int .i64 0) := ⟨_, rfl⟩
      have htd : Tw w2.heap.size gx Y3 wd := by rw [hwd]; exact HT.out.set gx _ _ (.inr ⟨i, rfl⟩)
      have HVd := Lib.hid (show Below w2.heap.size w2 wd by rw [hwd]; exact bset HVb.out hxb _)
      have HBd := Lib.hid (show Below W1.heap.size W1 wd by rw [hwd]; exact bset HBb.out (by have := HB12.out; omega) _)
      rw [← hwd]
      have HT := Lib.hid htd
      clear hwd htd a2 f2 HVb HBb
      go_wp2_with fail
      go_loopw [10] (fun v10 wr => ∃ j : Nat, v10 = .int .i64 j ∧ j ≤ gn2 ∧ Hid (Tw w2.heap.size gx Y3 wr) ∧ Hid (Below w2.heap.size w2 wr) ∧ Hid (Below W1.heap.size W1 wr)) (fun v10 _ => gn2 - (intOf v10).toNat)
      case atStart => exact ⟨0, rfl, Nat.zero_le _, HT, HVd, HBd⟩
      case round =>
        clear HT HVd HBd
        obtain ⟨j, rfl, hjl, HT, HVd, HBd⟩ := hrel
        obtain ⟨a1, a3, _, af⟩ := HT.out.at hiY
        rw [← HY.out] at a3
        simp only at a3
        have f3 := af (i * 4 + 3)
        by_cases hjt : j < gn2
        · have hjz : (j : Int) < (gn2 : Int) := by omega
          have hj0 : (0 : Int) ≤ (j : Int) := by omega
          have hjg : j < Y3[i].1.gn := by rw [← HY.out]; exact hjt
          obtain ⟨gG, hG, hGB, hGne, ⟨u0, b0⟩, ⟨u1, b1⟩, ⟨u3, b2⟩, bf⟩ := HT.out.agg hiY hjg
          rw [← HY.out] at hG
          simp only at hG
          subst hG
          have g0 := bf (j * 3)
          have g1 := bf (j * 3 + 1)
          have g2 := bf (j * 3 + 2)
          clear a1 af bf hjg
          go_wp2_with fail
          go_roundw
          case rel =>
            have hle : W1.heap.size ≤ gG := by have := HB12.out; omega
            exact ⟨j + 1, by go_num, by omega, Lib.hid (((HT.out.set gG (j * 3) _ (.inl hGne)).set gG (j * 3 + 1) _ (.inl hGne)).set gG (j * 3 + 2) _ (.inl hGne)), Lib.hid (bset (bset (bset HVd.out hGB _) hGB _) hGB _), Lib.hid (bset (bset (bset HBd.out hle _) hle _) hle _)⟩
          case measure => simp [intOf]; omega
        · have hjz : ¬ (j : Int) < (gn2 : Int) := by omega
          clear a1 af
          go_wp2_with fail
          go_roundw
          case rel => exact ⟨i + 1, by go_num, by omega, Lib.hid (.inr ⟨gx, rfl, HT.out⟩), HVd, HBd⟩
          case measure => simp [intOf]; omega
    case neg =>
    have hltz : ¬ ((i : Int) < (ln : Int)) := by omega
    clear HTW HND HLN hlt
    have HCP2 := Lib.hid (copy_any C k cap Z wo (HCC.out _ HBW.out) HK.out (by have h1 := HK9.out; have h2 := HK120.out; omega))
    go_upto_region 16 with (go_at_call 16; refine HCP2.out.mono ?_; rintro e w5 ⟨v5, Y5, rfl, ho5, hm5, hy5, hb5⟩; obtain ⟨hk5, A5, c5, rfl, hr5, q1, q2, q3⟩ := own_sliceR ho5; have HK5 := Lib.hid hk5; have HHY5 := Lib.hid hy5; have HO5 := Lib.hid ho5; have HM5 := Lib.hid hm5; have HHB5 := Lib.hid hb5; clear q1 q2 q3 hk5 ho5 hm5 hy5 hb5 hr5)
    have HD5 := Lib.hid (show ∀ y ∈ Y5, 1 ≤ y.2.dims.length from fun y hy => by
      have h1 : y.2 ∈ Z.map Prod.snd := by rw [← HM5.out]; exact List.mem_map.2 ⟨y, hy, rfl⟩
      obtain ⟨z, hz, he⟩ := List.mem_map.1 h1
      rw [← he]; exact HDZ.out z hz)
    have HN5 := Lib.hid (show ∀ y ∈ Y5, 1 ≤ y.1.n from fun y hy => by have h1 := ((HHY5.out y hy).good).nd; have h2 := HD5.out y hy; omega)
    have HTW := Lib.hid (show TW0 A5 wo.heap.size Y5 w5 from by
      rcases Nat.eq_zero_or_pos Y5.length with h0 | h0
      · exact .inl h0
      · exact .inr (Tw.start HO5.out HK5.out h0 HHY5.out HD5.out))
    have hwz : w2.heap.size ≤ wo.heap.size := HV2.out.size
    have HV2 := Lib.hid (bthen HV2.out HHB5.out)
    have HBW := Lib.hid (bthen HBW.out HHB5.out)
    have hk9 : k ≤ 9223372036854775807 := HK9.out
    clear HCP2 HM5 HHY5 HO5 HHB5 HD5
    go_wp2_with fail
    go_loopw [12] (fun v12 wr => ∃ i : Nat, v12 = .int .i64 i ∧ i ≤ k ∧ Hid (TW0 A5 wo.heap.size Y5 wr) ∧ Hid (Below w2.heap.size w2 wr) ∧ Hid (Below W1.heap.size W1 wr)) (fun v12 _ => k - (intOf v12).toNat)
    case atStart => exact ⟨0, rfl, Nat.zero_le _, HTW, HV2, HBW⟩
    case round =>
      clear HTW HV2 HBW
      obtain ⟨i', rfl, hil', HTW, HV2, HBW⟩ := hrel
      obtain ⟨wq, rfl⟩ : ∃ wq : World, wq = wr := ⟨_, rfl⟩
      by_cases hlt' : i' < k
      case pos =>
        have hltz' : (i' : Int) < (k : Int) := by omega
        have hi0' : (0 : Int) ≤ (i' : Int) := by omega
        have hiY : i' < Y5.length := by have := HK5.out; omega
        obtain ⟨gx, hgx, htw⟩ : ∃ gx, A5 = some ⟨gx, 0, none⟩ ∧ Tw wo.heap.size gx Y5 wq := by
          rcases HTW.out with h0 | h0
          · omega
          · exact h0
        subst hgx
        have HT := Lib.hid htw
        obtain ⟨a1, a3, ⟨u2, a2⟩, af⟩ := htw.at hiY
        obtain ⟨gD, hD, hgB, hgne, ⟨ud, ad⟩, afd⟩ := htw.dim hiY
        have hnd := HN5.out _ (List.getElem_mem hiY)
        obtain ⟨y, hy⟩ : ∃ y, y = Y5[i'] := ⟨_, rfl⟩
        rw [← hy] at a1 a3 hD hnd
        clear hy
        obtain ⟨⟨D2, n2, c2', G2, gn2, gc2⟩, ⟨t2, L2, q2, X2⟩⟩ := y
        simp only at a1 a3 hD hnd
        subst hD
        have hndz : (0 : Int) < (n2 : Int) := by omega
        have f1 := af (i' * 4 + 1)
        have hle1 : w2.heap.size ≤ gD := by omega
        have hle2 : W1.heap.size ≤ gD := by have := HB12.out; omega
        have HT2 := Lib.hid (HT.out.set gD 0 (.string ⟨#[116, 117, 114, 110, 101, 100]⟩) (.inl hgne))
        have HV3 := Lib.hid (bset HV2.out hle1 (o := 0) (.string ⟨#[116, 117, 114, 110, 101, 100]⟩))
        have HB3 := Lib.hid (bset HBW.out hle2 (o := 0) (.string ⟨#[116, 117, 114, 110, 101, 100]⟩))
        clear htw af HTW a2 a3 HT HV2 HBW hle1 hle2
        go_wp2_with fail
        go_roundw
        case rel => exact ⟨i' + 1, by go_num, by omega, Lib.hid (.inr ⟨gx, rfl, HT2.out⟩), HV3, HB3⟩
        case measure => simp [intOf]; omega
      case neg =>
      have hltz' : ¬ ((i' : Int) < (k : Int)) := by omega
      have HSAME := Lib.hid (show ∀ W, Below wq.heap.size wq W → Calls Try.prog 22 #[.slice C k cap, .slice A2 k c2] W (fun e w' => e = .returned (.bool true) ∧ Below W.heap.size W w') from fun W hW =>
        same_any C A2 k cap k c2 (Z.map Prod.snd) (Y2.map Prod.snd) W (HCC.out _ (bthen HBW.out hW)).rowsM (HY2.out.keep (bthen HV2.out hW)).rowsM (by rw [List.length_map]; exact HK.out) (by rw [List.length_map]; exact HK2.out) HK9.out HK9.out true (by simp [HYA.out]))
      have HFIN := Lib.hid (bthen HB1.out HBW.out)
      clear HTW HV2 HBW hlt'
      rcases HERR.out with hx | hx
      all_goals
        subst hx
        go_wp2_with (first
          | (go_at_call 10; refine (alive_any _).mono ?_; rintro e w8 ⟨rfl, hb8⟩; have HB8 := Lib.hid hb8; clear hb8)
          | (go_at_call 22; refine (HSAME.out _ HB8.out).mono ?_; rintro e w9 ⟨rfl, hb9⟩; have HB9 := Lib.hid hb9; clear hb9))
        go_ret
        exact ⟨by simp, bthen (bthen HFIN.out HB8.out) HB9.out⟩
end Go.Proofs.Ytlfhjjlgmhkepaa
