/- Project (the document's, 25). -/
import Derived.Test.YtmmeekmiildliaaGreatDoorCX
import Derived.Test.YtmmeekmiildliaaGreatDoorNB
import Derived.Test.YtmmeekmiildliaaGreatDoorIF
import Derived.Deep.RegionWith
namespace Go.Proofs.YtmmeekmiildliaaGreatDoor
open Go.RowKit
set_option linter.unusedSimpArgs false
set_option linter.unusedVariables false
/-- A row in a cuboid. -/
def projR (g : Int) (I : List Nat) (r : RV) : RV := ⟨flr r.t g, pickL r.dims I, r.count, r.aggs⟩
structure Pj (w2 W : World) (y : RZ) : Prop where
  d : W.ownsRow w2.heap.size 9 1 (.slice y.1.D y.1.n y.1.c) y.1.n (texts y.2.dims)
  sd : y.1.n * 16 ≤ 140737488355328
  rg : Row w2 y.1.G (cellsG y.2.aggs)
  ng : y.1.gn = y.2.aggs.length
  cg : y.1.gn ≤ y.1.gc
  ag : y.1.G = none → y.1.gc = 0
  sg : y.1.gn * 24 ≤ 140737488355328
theorem Pj.good {w2 W : World} {y : RZ} (h : Pj w2 W y) (hb : Below w2.heap.size w2 W) : Good W y := by
  obtain ⟨A, c, e, hr, hc, ha⟩ := own_slice h.d
  cases e
  refine ⟨hr, ?_, hc, ha, h.sd, h.rg.keep (Nat.le_refl _) hb, h.ng, h.cg, h.ag, h.sg⟩
  have := h.d.1; unfold texts at this; simpa using this.symm
theorem Pj.keep {w2 W W' : World} {y : RZ} (h : Pj w2 W y) (hb : Below W.heap.size W W') : Pj w2 W' y := { h with d := own_below h.d hb }
theorem Pj.app {w2 W W' : World} {y : RZ} {B n : Nat} {v : Value} {xs : List Value} (h : Pj w2 W y) (ho : W.ownsRow B 59 4 v n xs) (hg : W.grownBy W' v.ownBlock) : Pj w2 W' y := { h with d := h.d.kept hg (own_not_own h.d ho (by decide)) }
theorem names_in {L M : List ByteArray} (h : subsetP M L) : ∀ s ∈ M, s ∈ L := fun s hs => h.2.subset hs
theorem pickL_range : ∀ (D : List ByteArray) (I : List Nat), I = List.range D.length → pickL D I = D := fun D I e => by
  subst e
  unfold pickL
  apply List.ext_getElem?
  intro i
  have h : (List.range D.length).filterMap (fun i => D[i]?) = (List.range D.length).pmap (fun i (h : i < D.length) => D[i]) (fun i hi => List.mem_range.1 hi) := by
    have : ∀ (J : List Nat) (hJ : ∀ i ∈ J, i < D.length), J.filterMap (fun i => D[i]?) = J.pmap (fun i (h : i < D.length) => D[i]) hJ := by
      intro J
      induction J with
      | nil => intro _; rfl
      | cons j J ih =>
        intro hJ
        have hj := hJ j (List.mem_cons_self ..)
        rw [List.filterMap_cons, List.getElem?_eq_getElem hj, List.pmap_cons, ih (fun i hi => hJ i (List.mem_cons_of_mem _ hi))]
    exact this _ _
  rw [h]
  have e : (List.range D.length).pmap (fun i (h : i < D.length) => D[i]) (fun i hi => List.mem_range.1 hi) = D := by
    apply List.ext_getElem
    · simp
    · intro i h1 h2
      simp
  rw [e]
theorem plc_self {L : List ByteArray} {I : List Nat} (h : PlcIs L L I) (hl : I.length = L.length) (ha : apartP L) : I = List.range L.length := by
  apply List.ext_getElem
  · simp [hl]
  · intro i h1 h2
    rw [List.getElem_range]
    obtain ⟨hj, e⟩ := h.2 i h1 (by omega)
    rcases Nat.lt_trichotomy I[i] i with c | c | c
    · exact absurd e (ha _ _ c (by omega))
    · exact c
    · exact absurd e.symm (ha _ _ c hj)
theorem flr_one (t : Int) : flr t 1 = t := by unfold flr; omega
theorem proj_self {L : List ByteArray} {I : List Nat} {Z : List RZ} (h : PlcIs L L I) (hl : I.length = L.length) (ha : apartP L) (hd : ∀ z ∈ Z, z.2.dims.length = L.length) : (Z.map fun z => projR 1 I z.2) = Z.map Prod.snd := by
  apply List.map_congr_left
  intro z hz
  unfold projR
  rw [flr_one, pickL_range _ _ (by rw [plc_self h hl ha, hd z hz])]
theorem sub_self {L : List ByteArray} (h : namesP L) : subsetP L L := ⟨h, List.Sublist.refl _⟩
theorem names_left {L M : List ByteArray} (h : namesP (L ++ M)) : namesP L := by
  refine ⟨fun s hs => h.1 s (List.mem_append_left _ hs), fun i j hij hj => ?_⟩
  have := h.2 i j hij (by rw [List.length_append]; omega)
  rwa [List.getElem_append_left (by omega), List.getElem_append_left hj] at this
end Go.Proofs.YtmmeekmiildliaaGreatDoor
namespace Go.Proofs.YtmmeekmiildliaaGreatDoor
open Go.RowKit
set_option linter.unusedSimpArgs false
set_option linter.unusedVariables false
theorem first_drop {M : List ByteArray} {s : ByteArray} {i t : Nat} (h : FirstAt M s (some i)) (ht : t ≤ i) : FirstAt (M.drop t) s (some (i - t)) := by
  obtain ⟨hi, e, hn⟩ := h
  refine ⟨by rw [List.length_drop]; omega, ?_, fun j hj => ?_⟩
  · rw [List.getElem_drop]; simp only [show t + (i - t) = i by omega]; exact e
  · rw [List.getElem_drop]; exact hn (t + j) (by omega)
theorem first_drop_none {M : List ByteArray} {s : ByteArray} {t : Nat} (h : FirstAt M s none) : FirstAt (M.drop t) s none := fun j hj => by
  rw [List.getElem_drop]; exact h (t + j) (by rw [List.length_drop] at hj; omega)
theorem first_drop_past {M : List ByteArray} {s : ByteArray} {i t : Nat} (ha : apartP M) (h : FirstAt M s (some i)) (ht : i < t) : FirstAt (M.drop t) s none := fun j hj e => by
  rw [List.getElem_drop] at e
  rw [List.length_drop] at hj
  obtain ⟨hi, e1, _⟩ := h
  exact ha i (t + j) (by omega) (by omega) (e1.trans e.symm)
set_option maxRecDepth 100000 in
set_option maxHeartbeats 8000000 in
theorem refsubset_any (A B : Option Addr) (n c m d : Nat) (L M : List ByteArray) (w : World) (hA : Row w A (texts L)) (hB : Row w B (texts M)) (hn : n = L.length) (hm : m = M.length)
    (hn2 : n ≤ 9223372036854775807) (hm2 : m ≤ 9223372036854775807) (ha : apartP M) (r : Bool) (hr : r = true ↔ L.Sublist M) :
    Calls Tryz.prog 54 #[.slice A n c, .slice B m d] w fun e w' => e = .returned (.bool r) ∧ w = w' := by
  have HA := Lib.hid hA
  have HB := Lib.hid hB
  have HN := Lib.hid hn
  have HM := Lib.hid hm
  have HR := Lib.hid hr
  have HAP := Lib.hid ha
  clear hA hB hn hm hr ha
  go_enter Tryz.func54, Tryz.ntmps54
  go_wp2_with fail
  go_loop [5, 6] (fun v i => ∃ (k t : Nat) (u : Int), k ≤ n ∧ i = .int .i64 k ∧ v = .int .i64 u ∧ Hid (u = (t : Int) - 1) ∧ Hid (r = true ↔ (L.drop k).Sublist (M.drop t))) (fun _ i => n - (intOf i).toNat)
  case atStart => exact ⟨0, 0, -1, Nat.zero_le _, rfl, rfl, Lib.hid (by omega), HR⟩
  case round =>
    obtain ⟨k, t, u, hk, rfl, rfl, HU, HS⟩ := hrel
    by_cases hlt : k < n
    · have hkz : k < L.length := by have := HN.out; omega
      have hki : (k : Int) < (n : Int) := by omega
      have hk0 : (0 : Int) ≤ (k : Int) := by omega
      obtain ⟨b, off, hAe, c0⟩ := text_cell HA.out hkz
      obtain ⟨s, hs⟩ : ∃ s, s = L[k] := ⟨_, rfl⟩
      rw [← hs] at c0
      have HT := Lib.hid (show L.drop k = s :: L.drop (k + 1) by rw [hs]; exact List.drop_eq_getElem_cons hkz)
      subst hAe
      clear hs
      go_wp2_with fail
      refine (find_any B m d M s _ HB.out HM.out hm2).mono ?_
      rintro e w2 ⟨⟨o, ho, rfl⟩, rfl⟩
      have HO := Lib.hid ho
      clear ho
      cases o with
      | none =>
        obtain rfl : r = false := by
          cases r with
          | false => rfl
          | true => have := HS.out.1 rfl; rw [HT.out] at this; exact absurd this (sub_none (first_drop_none HO.out))
        have e1 : (none : Option Nat).getD 0 = 0 := rfl
        have e2 : (none : Option Nat).isSome = false := rfl
        rw [e1, e2]
        clear hlt
        go_wp2_with fail
        go_ret
        exact ⟨rfl, rfl⟩
      | some i =>
        have e1 : (some i).getD 0 = i := rfl
        have e2 : (some i).isSome = true := rfl
        rw [e1, e2]
        by_cases hit : i < t
        · obtain rfl : r = false := by
            cases r with
            | false => rfl
            | true => have := HS.out.1 rfl; rw [HT.out] at this; exact absurd this (sub_none (first_drop_past HAP.out HO.out hit))
          have d1 : decide ((i : Int) ≤ u) = true := by have := HU.out; simp; omega
          have d2 : (i : Int) ≤ u := by have := HU.out; omega
          clear hlt hit
          go_wp2_with fail
          go_ret
          exact ⟨rfl, rfl⟩
        · have d1 : decide ((i : Int) ≤ u) = false := by have := HU.out; simp; omega
          have HS2 := Lib.hid (show r = true ↔ (L.drop (k + 1)).Sublist (M.drop (i + 1)) by
            have := HS.out
            rw [HT.out, sub_some (first_drop HO.out (by omega)), List.drop_drop] at this
            rw [show t + (i - t + 1) = i + 1 by omega] at this
            exact this)
          clear hlt hit
          go_wp2_with fail
          go_round
          case rel => exact ⟨k + 1, i + 1, i, by omega, by go_num, rfl, Lib.hid (by omega), HS2⟩
          case measure => simp [intOf]; omega
    · have hge : ¬ (k : Int) < (n : Int) := by omega
      obtain rfl : r = true := HS.out.2 (by rw [List.drop_of_length_le (by have := HN.out; omega)]; exact List.nil_sublist _)
      clear hlt
      go_wp2_with fail
      go_ret
      exact ⟨rfl, rfl⟩
def WithinPost (w : World) (x y : Int) (Z : List RZ) (e : Ending) (w' : World) : Prop := ∃ A n c Y, e = .returned (.slice A n c) ∧ n = Y.length ∧ n ≤ Z.length ∧ RowsC w' A Y ∧ n ≤ c ∧ (Y.map Prod.snd = (Z.map Prod.snd).filter fun r => decide (x ≤ r.t ∧ r.t < y)) ∧ Below w.heap.size w w'
end Go.Proofs.YtmmeekmiildliaaGreatDoor
namespace Go.Proofs.YtmmeekmiildliaaGreatDoor
open Go.RowKit Go.Shelf
set_option linter.unusedSimpArgs false
set_option linter.unusedVariables false
theorem sub_list {L M : List ByteArray} (h : namesP M) : subsetP L M ↔ L.Sublist M := by
  refine ⟨fun h => h.2, fun k => ⟨⟨fun s hs => h.1 s (k.subset hs), ?_⟩, k⟩⟩
  have : M.Pairwise (· ≠ ·) := List.pairwise_iff_getElem.2 fun i j hi hj hij => h.2 i j hij hj
  have h2 := List.Pairwise.sublist k this
  exact fun i j hij hj => List.pairwise_iff_getElem.1 h2 i j (by omega) hj hij
end Go.Proofs.YtmmeekmiildliaaGreatDoor
namespace Go.Proofs.YtmmeekmiildliaaGreatDoor
open Go.RowKit Go.Shelf
set_option linter.unusedSimpArgs false
set_option linter.unusedVariables false
def SchemaPost (w : World) (L M N : List ByteArray) (e : Ending) (w' : World) : Prop :=
  ((¬ subsetP M L ∧ e = .returned (.tuple #[.agg #[.slice none 0 0, .slice none 0 0], .int .i64 141])) ∨ (subsetP M L ∧ ∃ D1 k1 D2 k2, e = .returned (.tuple #[.agg #[.slice D1 M.length k1, .slice D2 N.length k2], .int .i64 0]) ∧ Row w' D1 (texts M) ∧ Row w' D2 (texts N))) ∧ Below w.heap.size w w'
end Go.Proofs.YtmmeekmiildliaaGreatDoor
namespace Go.Proofs.YtmmeekmiildliaaGreatDoor
open Go.RowKit Go.Shelf
set_option linter.unusedSimpArgs false
set_option linter.unusedVariables false
def CRowPost (w : World) (g : Int) (L M : List ByteArray) (y : RZ) (p : Nat) (e : Ending) (w' : World) : Prop :=
  ∃ I A5 c5, e = .returned (.agg #[.int .i64 (flr y.2.t g), .slice A5 p c5, .int .i64 y.2.count, .slice y.1.G y.1.gn y.1.gc]) ∧ PlcIs L M I ∧ I.length = p ∧ w'.ownsRow w.heap.size 9 1 (.slice A5 p c5) p (texts (pickL y.2.dims I)) ∧ Below w.heap.size w w'
theorem first_exists : ∀ (L : List ByteArray) (s : ByteArray), ∃ o, FirstAt L s o := fun L s => by
  by_cases h : ∃ k, ∃ hk : k < L.length, L[k] = s
  · obtain ⟨k, hk, e, hm⟩ : ∃ k, ∃ hk : k < L.length, L[k] = s ∧ ∀ j (hj : j < L.length), j < k → L[j] ≠ s := by
      obtain ⟨k, hk, e⟩ := h
      induction k using Nat.strongRecOn with
      | ind k ih =>
        by_cases hx : ∃ j, ∃ hj : j < L.length, j < k ∧ L[j] = s
        · obtain ⟨j, hj, hjk, e2⟩ := hx; exact ih j hjk hj e2
        · exact ⟨k, hk, e, fun j hj hjk e2 => hx ⟨j, hj, hjk, e2⟩⟩
    exact ⟨some k, hk, e, fun j hj => hm j (by omega) hj⟩
  · exact ⟨none, fun k hk e => h ⟨k, hk, e⟩⟩
theorem first_uniq {L : List ByteArray} {s : ByteArray} {o : Option Nat} {k : Nat} (h : FirstAt L s o) (h2 : FirstAt L s (some k)) : o = some k := by
  obtain ⟨hk, e, hm⟩ := h2
  cases o with
  | none => exact absurd e (h k hk)
  | some j =>
    obtain ⟨hj, e2, hm2⟩ := h
    rcases Nat.lt_trichotomy j k with hl | hl | hl
    · exact absurd e2 (hm j hl)
    · rw [hl]
    · exact absurd e (hm2 k hl)
set_option maxRecDepth 100000 in
set_option maxHeartbeats 8000000 in
theorem crow_any (A B E : Option Addr) (n c m d p pc : Nat) (g : Int) (L M : List ByteArray) (y : RZ) (w : World) (hA : Row w A (texts L)) (hn : n = L.length) (hn2 : n ≤ 1000000) (hE : Row w E (texts M)) (hp : p = M.length) (hp2 : p ≤ 1000000) (hM : ∀ s ∈ M, s ∈ L) (hy : Good w y) (hyl : y.2.dims.length = L.length) (hg : okBoth y.2.t g) :
    Calls Tryz.prog 55 #[.agg #[.slice A n c, .slice B m d], .agg #[.int .i64 y.2.t, .slice y.1.D y.1.n y.1.c, .int .i64 y.2.count, .slice y.1.G y.1.gn y.1.gc], .slice E p pc, .int .i64 g] w (CRowPost w g L M y p) := by
  have HYG := Lib.hid hy
  have HYL := Lib.hid hyl
  have HA := Lib.hid hA
  have HE := Lib.hid hE
  have HN := Lib.hid hn
  have HP := Lib.hid hp
  have HM := Lib.hid hM
  obtain ⟨⟨D1, n1, c1, G1, gn1, gc1⟩, ⟨t1, L1, u1, X1⟩⟩ := y
  simp only at HYL hg
  obtain ⟨tt, htt⟩ : ∃ tt, tt = flr t1 g := ⟨_, rfl⟩
  have HTT := Lib.hid htt
  have HFL := Lib.hid (show ∀ W, Calls Tryz.prog 48 #[.int .i64 t1, .int .i64 g] W fun e w' => e = .returned (.tuple #[.int .i64 tt, .int .i64 0]) ∧ W = w' from fun W => by rw [htt]; exact rFloor_good t1 g W hg)
  obtain ⟨W1, hW1⟩ : ∃ W1, W1 = ((w.alloc (.cells #[.slice A n c, .slice B m d] 24)).alloc (.cells #[.int .i64 t1, .slice D1 n1 c1, .int .i64 u1, .slice G1 gn1 gc1] 59)).alloc (.cells #[.int .i64 0, .slice none 0 0, .int .i64 0, .slice none 0 0] 59) := ⟨_, rfl⟩
  have HW1 := Lib.hid hW1
  obtain ⟨gS, hgS⟩ : ∃ gS, gS = w.heap.size := ⟨_, rfl⟩
  have HB1 := Lib.hid (show Below w.heap.size w W1 by rw [hW1]; exact bpush (bpush (bpush (Below.refl _ _) _) _) _)
  have HKS := Lib.hid (show Blk W1 w.heap.size 24 #[.slice A n c, .slice B m d] by rw [hW1]; exact ((Blk.new _ _ _).alloc _).alloc _)
  have HKR := Lib.hid (show Blk W1 (w.heap.size + 1) 59 #[.int .i64 t1, .slice D1 n1 c1, .int .i64 u1, .slice G1 gn1 gc1] by
    rw [hW1]; have := (Blk.new (w.alloc (.cells #[.slice A n c, .slice B m d] 24)) 59 #[.int .i64 t1, .slice D1 n1 c1, .int .i64 u1, .slice G1 gn1 gc1]).alloc (.cells #[.int .i64 0, .slice none 0 0, .int .i64 0, .slice none 0 0] 59); simpa using this)
  have HKZ := Lib.hid (show Blk W1 (w.heap.size + 1 + 1) 59 #[.int .i64 0, .slice none 0 0, .int .i64 0, .slice none 0 0] by
    rw [hW1]; have := Blk.new ((w.alloc (.cells #[.slice A n c, .slice B m d] 24)).alloc (.cells #[.int .i64 t1, .slice D1 n1 c1, .int .i64 u1, .slice G1 gn1 gc1] 59)) 59 #[.int .i64 0, .slice none 0 0, .int .i64 0, .slice none 0 0]; simpa using this)
  have HWS := Lib.hid (show W1.heap.size = w.heap.size + 1 + 1 + 1 by rw [hW1]; simp)
  clear hA hn hE hp hM hy hyl hg htt hW1 hgS
  obtain ⟨i0, hi0, hz0, hz1, hz2⟩ := info_parts cinfo22
  go_enter Tryz.func55, Tryz.ntmps55
  go_upto_region 1 with fail
  rw [← HW1.out]
  have r0 := HKR.out.cell 0
  have r1 := HKR.out.cell 1
  have r2 := HKR.out.cell 2
  have r3 := HKR.out.cell 3
  simp at r0 r1 r2 r3
  go_upto_region 3 with (go_at_call 48; refine (HFL.out _).mono ?_; rintro e w1 ⟨rfl, rfl⟩)
  obtain ⟨W2, hW2⟩ : ∃ W2, W2 = W1.alloc (.cells #[.int .i64 tt, .slice none 0 0, .int .i64 u1, .slice G1 gn1 gc1] 59) := ⟨_, rfl⟩
  have hb2 : Below W1.heap.size W1 W2 := by rw [hW2]; exact bpush (Below.refl _ _) _
  have HB2 := Lib.hid (bthen HB1.out hb2)
  have HKR2 := Lib.hid (HKR.out.below hb2 (HKR.out.lt))
  have HKS2 := Lib.hid (HKS.out.below hb2 (HKS.out.lt))
  have HKZ2 := Lib.hid (HKZ.out.below hb2 (HKZ.out.lt))
  have HKO2 := Lib.hid (show Blk W2 W1.heap.size 59 #[.int .i64 tt, .slice none 0 0, .int .i64 u1, .slice G1 gn1 gc1] by rw [hW2]; exact Blk.new _ _ _)
  have hgO : W2.heap.size = W1.heap.size + 1 := by rw [hW2]; simp
  have hws := HWS.out
  rw [← hW2]
  clear hW2 hb2 r0 r1 r2 r3
  obtain ⟨gO, hgO2⟩ : ∃ gO, gO = W1.heap.size := ⟨_, rfl⟩
  rw [← hgO2] at HKO2 hgO hws ⊢
  clear hgO2 HKR HKS HKZ HB1 HWS HFL HW1
  have HGO := Lib.hid hgO
  have HWS := Lib.hid hws
  clear hgO hws
  go_wp2_with fail
  go_loopw [12] (fun v12 wr => ∃ (i : Nat) (A' : Option Addr) (c' : Nat) (I : List Nat), v12 = .int .i64 i ∧ i ≤ p ∧ Hid (I.length = i) ∧ Hid (PlcIs L M I) ∧ Hid (wr.ownsRow W2.heap.size 9 1 (.slice A' i c') i (texts (pickL L1 I))) ∧ Hid (Blk wr gO 59 #[.int .i64 tt, .slice A' i c', .int .i64 u1, .slice G1 gn1 gc1]) ∧ Hid (Blk wr (w.heap.size + 1) 59 #[.int .i64 t1, .slice D1 n1 c1, .int .i64 u1, .slice G1 gn1 gc1]) ∧ Hid (Blk wr w.heap.size 24 #[.slice A n c, .slice B m d]) ∧ Hid (Blk wr (w.heap.size + 1 + 1) 59 #[.int .i64 0, .slice none 0 0, .int .i64 0, .slice none 0 0]) ∧ Hid (Below w.heap.size w wr) ∧ Hid (W2.heap.size ≤ wr.heap.size)) (fun v12 _ => p - (intOf v12).toNat)
  case atStart => exact ⟨0, none, 0, [], rfl, Nat.zero_le _, Lib.hid rfl, Lib.hid ⟨Nat.zero_le _, fun j h => by simp at h⟩, Lib.hid (World.ownsRow_nil _ _ _ _), HKO2, HKR2, HKS2, HKZ2, HB2, Lib.hid (Nat.le_refl _)⟩
  case round =>
    clear HKO2 HKR2 HKS2 HKZ2 HB2
    obtain ⟨i, A', c', I, rfl, hip, HIL, HPI, HO, HKO, HKR, HKS, HKZ, HB, HSZ⟩ := hrel
    by_cases hlt : i < p
    case neg =>
      obtain rfl : i = p := by omega
      have hjz : ¬ ((i : Int) < (i : Int)) := by omega
      clear hlt
      have o0 := HKO.out.cell 0
      have o1 := HKO.out.cell 1
      have o2 := HKO.out.cell 2
      have o3 := HKO.out.cell 3
      have z0 := HKZ.out.cell 0
      have z1 := HKZ.out.cell 1
      have z2 := HKZ.out.cell 2
      have z3 := HKZ.out.cell 3
      have f0 := HKZ.out.frozen 0
      have f1 := HKZ.out.frozen 1
      have f2 := HKZ.out.frozen 2
      have f3 := HKZ.out.frozen 3
      simp at o0 o1 o2 o3 z0 z1 z2 z3
      obtain ⟨W3, hW3⟩ : ∃ W3, W3 = (((wr.setCell ⟨w.heap.size + 1 + 1, 0, none⟩ (.int .i64 tt)).setCell ⟨w.heap.size + 1 + 1, 1, none⟩ (.slice A' i c')).setCell ⟨w.heap.size + 1 + 1, 2, none⟩ (.int .i64 u1)).setCell ⟨w.heap.size + 1 + 1, 3, none⟩ (.slice G1 gn1 gc1) := ⟨_, rfl⟩
      have HK3 := Lib.hid (show Blk W3 (w.heap.size + 1 + 1) 59 #[.int .i64 tt, .slice A' i c', .int .i64 u1, .slice G1 gn1 gc1] by rw [hW3]; exact (((HKZ.out.set_ 0 _).set_ 1 _).set_ 2 _).set_ 3 _)
      have HB3 := Lib.hid (show Below w.heap.size w W3 by rw [hW3]; exact bset (bset (bset (bset HB.out (by omega) _) (by omega) _) (by omega) _) (by omega) _)
      have hav : (Value.slice A' i c').ownBlock ≠ some (w.heap.size + 1 + 1) := fun e => by
        rcases HO.out.2 with ⟨h, _⟩ | ⟨g', cap, cur, h, hg', _⟩
        · cases h; simp [Value.ownBlock] at e
        · have hgo := HGO.out
          have hws := HWS.out
          rw [h] at e; simp [Value.ownBlock] at e; omega
      have HO3 := Lib.hid (show W3.ownsRow w.heap.size 9 1 (.slice A' i c') i (texts (pickL L1 I)) by
        rw [hW3]
        refine own_set' (own_set' (own_set' (own_set' (own_less HO.out ?_) hav) hav) hav) hav
        have := HGO.out; have := HWS.out; omega)
      have HW3 := Lib.hid hW3.symm
      clear hW3 hav
      have q0 := HK3.out.cell 0
      have q1 := HK3.out.cell 1
      have q2 := HK3.out.cell 2
      have q3 := HK3.out.cell 3
      simp at q0 q1 q2 q3
      go_wp2_with fail
      rw [HW3.out]
      refine bodyPost_ret (v := .agg #[.int .i64 tt, .slice A' i c', .int .i64 u1, .slice G1 gn1 gc1]) (by simp [results, Tryz.results55, go_sem, q0, q1, q2, q3]) rfl ⟨I, A', c', by rw [HTT.out], HPI.out, HIL.out, HO3.out, HB3.out⟩
    case pos =>
    have hjz : (i : Int) < (p : Int) := by omega
    have hj0 : (0 : Int) ≤ (i : Int) := by omega
    have hiM : i < M.length := by have := HP.out; omega
    obtain ⟨bE, oE, hEe, hc⟩ := text_cell (HE.out.keep (Nat.le_refl _) HB.out) hiM
    subst hEe
    obtain ⟨s, hs⟩ : ∃ s, s = M[i] := ⟨_, rfl⟩
    rw [← hs] at hc
    have HSM := Lib.hid (show s ∈ L from HM.out s (by rw [hs]; exact List.getElem_mem hiM))
    have HSI := Lib.hid hs
    clear hs
    obtain ⟨k, hk⟩ : ∃ k, FirstAt L s (some k) := by
      have hx := first_exists L s
      obtain ⟨o, ho⟩ := hx
      cases o with
      | some k => exact ⟨k, ho⟩
      | none =>
        obtain ⟨q, hq, e⟩ := List.getElem_of_mem HSM.out
        exact absurd e (ho q hq)
    have HKK := Lib.hid hk
    have hkL : k < L.length := hk.1
    have hkl1 : k < L1.length := by have := HYL.out; omega
    have HPN := Lib.hid (show PlcIs L M (I ++ [k]) from ⟨by rw [List.length_append, HIL.out]; simp; omega, fun q hq hqm => by
      rw [List.length_append, HIL.out] at hq
      rcases Nat.lt_or_ge q i with h | h
      · rw [List.getElem_append_left (by rw [HIL.out]; exact h)]
        exact HPI.out.2 q (by rw [HIL.out]; exact h) hqm
      · have hqj : q = i := by simp at hq; omega
        subst hqj
        rw [List.getElem_append_right (by rw [HIL.out]; exact Nat.le_refl _)]
        simp only [HIL.out, Nat.sub_self, List.getElem_cons_zero]
        exact ⟨HKK.out.1, by rw [HKK.out.2.1, HSI.out]⟩⟩)
    have HTN := Lib.hid (pickL_snoc L1 I k hkl1)
    have HFD := Lib.hid (show ∀ W, Row W A (texts L) → Calls Tryz.prog 89 #[.slice A n c, .string s] W fun e w' => e = .returned (.tuple #[.int .i64 (k : Int), .bool true]) ∧ w' = W from fun W hW => (find_any A n c L s W hW HN.out (by have := HN.out; omega)).mono fun e w' ⟨⟨o, ho, he⟩, hw⟩ => by
      have := first_uniq ho HKK.out
      subst this
      exact ⟨he, hw.symm⟩)
    have HAW := Lib.hid (show ∀ z, Row (wr.drewN z) A (texts L) from fun z => HA.out.keep (Nat.le_refl _) (below_drewN HB.out z))
    have s0 := HKS.out.cell 0
    simp at s0
    obtain ⟨bD, oD, hDe, hd0⟩ := text_cell (show Row w D1 (texts L1) from HYG.out.rd) hkl1
    obtain ⟨bD', oD', hDe', hd⟩ := text_cell (show Row wr D1 (texts L1) from (HYG.out.rd.keep (Nat.le_refl _) HB.out)) hkl1
    subst hDe
    cases hDe'
    obtain ⟨v, hv⟩ : ∃ v, v = L1[k] := ⟨_, rfl⟩
    rw [← hv] at hd hd0 HTN
    have hkn : (k : Int) < (n1 : Int) := by have h := HYG.out.nd; simp only at h; omega
    have hk0 : (0 : Int) ≤ (k : Int) := by omega
    have HD := Lib.hid hd
    have HDW := Lib.hid hd0
    clear hk hkL hkl1 hd hd0 hv hlt
    go_upto_region 6 with fail
    go_quiet ((go_at_call 89; exact Calls.quiet_of_same (HFD.out _ (HAW.out _))))
    go_upto_region 7 with fail
    obtain ⟨wd, hwd⟩ : ∃ wd, wd = (wr.drewN nq).drew := ⟨_, rfl⟩
    have hbd : Below wr.heap.size wr wd := by rw [hwd]; exact below_drewN (below_drewN (Below.refl _ _) nq) 1
    have HOd := Lib.hid (own_below HO.out hbd)
    have HKOd := Lib.hid (HKO.out.below hbd HKO.out.lt)
    have HKSd := Lib.hid (HKS.out.below hbd HKS.out.lt)
    have HKZd := Lib.hid (HKZ.out.below hbd HKZ.out.lt)
    have HBd := Lib.hid (bthen HB.out hbd)
    have HSZd := Lib.hid (show W2.heap.size ≤ wd.heap.size from Nat.le_trans HSZ.out hbd.size)
    have hs0 : (fun w' => Blk w' (w.heap.size + 1) 59 #[.int .i64 t1, .slice (some ⟨bD, oD, none⟩) n1 c1, .int .i64 u1, .slice G1 gn1 gc1] ∧ w'.cell? ⟨bD, oD + k, none⟩ = some (.string v)) wd := ⟨HKR.out.below hbd HKR.out.lt, cell_on hbd HD.out⟩
    have HDw := HDW
    rw [hwd] at hs0
    refine wp_region_held_drew (S := fun w' => Blk w' (w.heap.size + 1) 59 #[.int .i64 t1, .slice (some ⟨bD, oD, none⟩) n1 c1, .int .i64 u1, .slice G1 gn1 gc1] ∧ w'.cell? ⟨bD, oD + k, none⟩ = some (.string v)) (by kernel_rfl) hs0 ?_
    intro hHeld
    rw [← hwd] at hHeld ⊢
    have o1 := HKOd.out.cell 1
    simp at o1
    clear hwd hbd hs0 HO HKO HKR HKS HKZ HB HSZ HD HDW s0 hc
    refine take_want (i := 0) (v := ?v0r) rfl (by kernel_rfl) (by kernel_rfl) (by kernel_rfl) (fun _ _ _ h => h) (by rfl) ?y0r (by assumption) ?r0r
    case y0r => (intro w hSw; go_simp; all_goals with_reducible rfl)
    (try simp only [Act.put, List.setIfInBounds_toArray, List.set_cons_zero, List.set_cons_succ])
    refine take_want (i := 2) (v := ?v2r) rfl (by kernel_rfl) (by kernel_rfl) (by kernel_rfl) (fun _ _ _ h => h) (by rfl) ?y2r (by assumption) ?r2r
    case y2r => (intro w hSw; go_simp; all_goals with_reducible rfl)
    (try simp only [Act.put, List.setIfInBounds_toArray, List.set_cons_zero, List.set_cons_succ])
    refine take_want (i := 3) (v := ?v3r) rfl (by kernel_rfl) (by kernel_rfl) (by kernel_rfl) (fun _ _ _ h => h) (by rfl) ?y3r (by assumption) ?r3r
    case y3r => (intro w hSw; have r0 := hSw.1.cell 0; have r1 := hSw.1.cell 1; have r2 := hSw.1.cell 2; have r3 := hSw.1.cell 3; simp at r0 r1 r2 r3; have rt := hSw.2; go_simp; all_goals with_reducible rfl)
    (try simp only [Act.put, List.setIfInBounds_toArray, List.set_cons_zero, List.set_cons_succ])
    refine take_want (i := 4) (v := ?v4r) rfl (by kernel_rfl) (by kernel_rfl) (by kernel_rfl) (fun _ _ _ h => h) (by rfl) ?y4r (by assumption) ?r4r
    case y4r => (intro w hSw; go_simp; all_goals with_reducible rfl)
    (try simp only [Act.put, List.setIfInBounds_toArray, List.set_cons_zero, List.set_cons_succ])
    refine take_want (i := 5) (v := ?v5r) rfl (by kernel_rfl) (by kernel_rfl) (by kernel_rfl) (fun _ _ _ h => h) (by rfl) ?y5r (by assumption) ?r5r
    case y5r => (intro w hSw; go_simp; all_goals with_reducible rfl)
    (try simp only [Act.put, List.setIfInBounds_toArray, List.set_cons_zero, List.set_cons_succ])
    refine take_want (i := 6) (v := ?v6r) rfl (by kernel_rfl) (by kernel_rfl) (by kernel_rfl) (fun _ _ _ h => h) (by rfl) ?y6r (by assumption) ?r6r
    case y6r => (intro w hSw; have rt := hSw.2; go_simp; all_goals with_reducible rfl)
    (try simp only [Act.put, List.setIfInBounds_toArray, List.set_cons_zero, List.set_cons_succ])
    refine wpAnyH_ready (rs := [1, 7]) (by kernel_rfl) (by simp) ?_
    refine AllReadyH.cons rfl (fun K hK => ?_) (AllReadyH.cons rfl (fun K hK => ?_) AllReadyH.nil)
    · skip
      go_simp
      refine hK.out _ _ hHeld (fun hHeld => ?_)
      clear hK K
      (try simp only [Act.put, List.setIfInBounds_toArray, List.set_cons_zero, List.set_cons_succ])
      refine wpAnyH_ready (rs := [7]) (by kernel_rfl) (by simp) ?_
      refine AllReadyH.cons rfl (fun K hK => ?_) AllReadyH.nil
      go_simp
      obtain ⟨V3, hV3⟩ : ∃ V3, V3 = wd.alloc (.cells #[.string v] 9) := ⟨_, rfl⟩
      have hb3 : Below wd.heap.size wd V3 := by rw [hV3]; exact bpush (Below.refl _ _) _
      have HNW := Lib.hid (show Row V3 (some ⟨wd.heap.size, 0, none⟩) [.string v] by rw [hV3]; exact Row.made rfl rfl)
      have hs2 : Blk V3 (w.heap.size + 1) 59 #[.int .i64 t1, .slice (some ⟨bD, oD, none⟩) n1 c1, .int .i64 u1, .slice G1 gn1 gc1] ∧ V3.cell? ⟨bD, oD + k, none⟩ = some (.string v) := ⟨hHeld.1.below hb3 hHeld.1.lt, cell_on hb3 hHeld.2⟩
      have HO3 := Lib.hid (own_below HOd.out hb3)
      have HKO3 := Lib.hid (HKOd.out.below hb3 HKOd.out.lt)
      have HKS3 := Lib.hid (HKSd.out.below hb3 HKSd.out.lt)
      have HKZ3 := Lib.hid (HKZd.out.below hb3 HKZd.out.lt)
      have HB3 := Lib.hid (bthen HBd.out hb3)
      have HSZ3 := Lib.hid (show W2.heap.size ≤ V3.heap.size from Nat.le_trans HSZd.out hb3.size)
      have x1 := HKO3.out.cell 1
      simp at x1
      rw [← hV3]
      refine hK.out _ _ hs2 (fun hHeld => ?_)
      clear hK K
      (try simp only [Act.put, List.setIfInBounds_toArray, List.set_cons_zero, List.set_cons_succ])
      clear hb3 hV3 hs2 o1
      clear x1
      refine wpAnyH_ready (rs := [8]) (by kernel_rfl) (by simp) ?_
      refine AllReadyH.cons rfl (fun K hK => ?_) AllReadyH.nil
      refine step_append_at rfl _ _ 22 rfl W2.heap.size 9 i0 (.string ⟨#[]⟩) 1 16 Tryz.underlying22 hi0 hz0 hz1 hz2 rfl (by decide) (.slice A' i c') i (texts (pickL L1 I)) (by first | rfl | (simp; done)) HO3.out ⟨wd.heap.size, 0, none⟩ 1 1 [.string v] (by first | rfl | (simp; done)) rfl HNW.out.at' (by intro u hu; simp at hu; subst hu; rfl) (by unfold maxLen; omega) (by omega) HSZ3.out ?_
      intro v5 w5 ho5 hg5 hd5
      rw [texts_snoc, ← HTN.out] at ho5
      obtain ⟨A7, c7, rfl, hr7, _, _⟩ := own_slice ho5
      have hgS : (Value.slice A' i c').ownBlock ≠ some w.heap.size := own_apart HO3.out (by have := HWS.out; have := HGO.out; omega)
      have hgR : (Value.slice A' i c').ownBlock ≠ some (w.heap.size + 1) := own_apart HO3.out (by have := HWS.out; have := HGO.out; omega)
      have hgZ : (Value.slice A' i c').ownBlock ≠ some (w.heap.size + 1 + 1) := own_apart HO3.out (by have := HWS.out; have := HGO.out; omega)
      have hgo : (Value.slice A' i c').ownBlock ≠ some gO := own_apart HO3.out (by have := HGO.out; omega)
      have hs5 : Blk w5 (w.heap.size + 1) 59 #[.int .i64 t1, .slice (some ⟨bD, oD, none⟩) n1 c1, .int .i64 u1, .slice G1 gn1 gc1] ∧ w5.cell? ⟨bD, oD + k, none⟩ = some (.string v) := ⟨hHeld.1.grown hg5 hgR, hg5.cell hHeld.2 (Ne.symm (own_apart HO3.out (show bD < W2.heap.size by have := lt_of_cell HDw.out; have := HWS.out; have := HGO.out; omega)))⟩
      have HO5 := Lib.hid ho5
      have HKO5 := Lib.hid (HKO3.out.grown hg5 hgo)
      have HKS5 := Lib.hid (HKS3.out.grown hg5 hgS)
      have HKZ5 := Lib.hid (HKZ3.out.grown hg5 hgZ)
      have HB5 := Lib.hid (show Below w.heap.size w w5 from HB3.out.trans (grown_below (own_less HO3.out (by have := HWS.out; have := HGO.out; omega)) hg5 HB3.out.size))
      have HSZ5 := Lib.hid (show W2.heap.size ≤ w5.heap.size from Nat.le_trans HSZ3.out hg5.size)
      refine hK.out _ _ hs5 (fun hHeld => ?_)
      clear hK K
      (try simp only [Act.put, List.setIfInBounds_toArray, List.set_cons_zero, List.set_cons_succ])
      clear ho5 hg5 hd5 hs5 hr7 hgS hgR hgZ hgo HO3 HKO3 HKS3 HKZ3 HB3 HSZ3
      refine take_want (i := 9) (v := ?v9ra) rfl (by kernel_rfl) (by kernel_rfl) (by kernel_rfl) (fun _ _ _ h => h) (by rfl) ?y9ra (by assumption) ?r9ra
      case y9ra => (intro w hSw; go_simp; all_goals with_reducible rfl)
      (try simp only [Act.put, List.setIfInBounds_toArray, List.set_cons_zero, List.set_cons_succ])
      have o1 := HKO5.out.cell 1
      have f1 := HKO5.out.frozen 1
      simp at o1
      refine wpAnyH_ready (rs := [10]) (by kernel_rfl) (by simp) ?_
      refine AllReadyH.cons rfl (fun K hK => ?_) AllReadyH.nil
      go_simp
      have hne : gO ≠ w.heap.size + 1 := by have := HWS.out; omega
      have hs6 : Blk (w5.setCell ⟨gO, 1, none⟩ (.slice A7 (i + 1) c7)) (w.heap.size + 1) 59 #[.int .i64 t1, .slice (some ⟨bD, oD, none⟩) n1 c1, .int .i64 u1, .slice G1 gn1 gc1] ∧ (w5.setCell ⟨gO, 1, none⟩ (.slice A7 (i + 1) c7)).cell? ⟨bD, oD + k, none⟩ = some (.string v) := ⟨hHeld.1.far (by intro e; exact hne e.symm) _, (World.cell?_setCell_other _ _ _ _ (fun e => by have e2 := congrArg Addr.block e; simp at e2; have := lt_of_cell HDw.out; have := HWS.out; omega)).trans hHeld.2⟩
      refine hK.out _ _ hs6 (fun hHeld => ?_)
      clear hK K
      (try simp only [Act.put, List.setIfInBounds_toArray, List.set_cons_zero, List.set_cons_succ])
      refine wpAnyH_done (by kernel_rfl) ?_ _
      have HKO6 := Lib.hid (show Blk (w5.setCell ⟨gO, 1, none⟩ (.slice A7 (i + 1) c7)) gO 59 #[.int .i64 tt, .slice A7 (i + 1) c7, .int .i64 u1, .slice G1 gn1 gc1] from HKO5.out.set_ 1 _)
      have HKS6 := Lib.hid (show Blk (w5.setCell ⟨gO, 1, none⟩ (.slice A7 (i + 1) c7)) w.heap.size 24 #[.slice A n c, .slice B m d] from HKS5.out.far (by show w.heap.size ≠ gO; have := HWS.out; omega) _)
      have HKZ6 := Lib.hid (show Blk (w5.setCell ⟨gO, 1, none⟩ (.slice A7 (i + 1) c7)) (w.heap.size + 1 + 1) 59 #[.int .i64 0, .slice none 0 0, .int .i64 0, .slice none 0 0] from HKZ5.out.far (by show w.heap.size + 1 + 1 ≠ gO; have := HWS.out; omega) _)
      have HKR6 := Lib.hid hHeld.1
      have HO6 := Lib.hid (show (w5.setCell ⟨gO, 1, none⟩ (.slice A7 (i + 1) c7)).ownsRow W2.heap.size 9 1 (.slice A7 (i + 1) c7) (i + 1) (texts (pickL L1 (I ++ [k]))) from own_set' HO5.out (own_apart HO5.out (by have := HGO.out; omega)))
      have HB6 := Lib.hid (show Below w.heap.size w (w5.setCell ⟨gO, 1, none⟩ (.slice A7 (i + 1) c7)) from bset HB5.out (by have := HWS.out; omega) _)
      have HSZ6 := Lib.hid (show W2.heap.size ≤ (w5.setCell ⟨gO, 1, none⟩ (.slice A7 (i + 1) c7)).heap.size by have := HSZ5.out; simpa using this)
      clear o1 f1 hs6 hne hHeld HO5 HKO5 HKS5 HKZ5 HB5 HSZ5
      go_wp2_with fail
      go_roundw
      case rel => exact ⟨i + 1, A7, c7, I ++ [k], by go_num, by omega, Lib.hid (by rw [List.length_append, HIL.out]; rfl), HPN, HO6, HKO6, HKR6, HKS6, HKZ6, HB6, HSZ6⟩
      case measure => simp [intOf]; omega
    · skip
      go_simp
      obtain ⟨V3, hV3⟩ : ∃ V3, V3 = wd.alloc (.cells #[.string v] 9) := ⟨_, rfl⟩
      have hb3 : Below wd.heap.size wd V3 := by rw [hV3]; exact bpush (Below.refl _ _) _
      have HNW := Lib.hid (show Row V3 (some ⟨wd.heap.size, 0, none⟩) [.string v] by rw [hV3]; exact Row.made rfl rfl)
      have hs2 : Blk V3 (w.heap.size + 1) 59 #[.int .i64 t1, .slice (some ⟨bD, oD, none⟩) n1 c1, .int .i64 u1, .slice G1 gn1 gc1] ∧ V3.cell? ⟨bD, oD + k, none⟩ = some (.string v) := ⟨hHeld.1.below hb3 hHeld.1.lt, cell_on hb3 hHeld.2⟩
      have HO3 := Lib.hid (own_below HOd.out hb3)
      have HKO3 := Lib.hid (HKOd.out.below hb3 HKOd.out.lt)
      have HKS3 := Lib.hid (HKSd.out.below hb3 HKSd.out.lt)
      have HKZ3 := Lib.hid (HKZd.out.below hb3 HKZd.out.lt)
      have HB3 := Lib.hid (bthen HBd.out hb3)
      have HSZ3 := Lib.hid (show W2.heap.size ≤ V3.heap.size from Nat.le_trans HSZd.out hb3.size)
      have x1 := HKO3.out.cell 1
      simp at x1
      rw [← hV3]
      refine hK.out _ _ hs2 (fun hHeld => ?_)
      clear hK K
      (try simp only [Act.put, List.setIfInBounds_toArray, List.set_cons_zero, List.set_cons_succ])
      clear hb3 hV3 hs2 o1
      refine wpAnyH_ready (rs := [1]) (by kernel_rfl) (by simp) ?_
      refine AllReadyH.cons rfl (fun K hK => ?_) AllReadyH.nil
      go_simp
      refine hK.out _ _ hHeld (fun hHeld => ?_)
      clear hK K
      (try simp only [Act.put, List.setIfInBounds_toArray, List.set_cons_zero, List.set_cons_succ])
      clear x1
      refine wpAnyH_ready (rs := [8]) (by kernel_rfl) (by simp) ?_
      refine AllReadyH.cons rfl (fun K hK => ?_) AllReadyH.nil
      refine step_append_at rfl _ _ 22 rfl W2.heap.size 9 i0 (.string ⟨#[]⟩) 1 16 Tryz.underlying22 hi0 hz0 hz1 hz2 rfl (by decide) (.slice A' i c') i (texts (pickL L1 I)) (by first | rfl | (simp; done)) HO3.out ⟨wd.heap.size, 0, none⟩ 1 1 [.string v] (by first | rfl | (simp; done)) rfl HNW.out.at' (by intro u hu; simp at hu; subst hu; rfl) (by unfold maxLen; omega) (by omega) HSZ3.out ?_
      intro v5 w5 ho5 hg5 hd5
      rw [texts_snoc, ← HTN.out] at ho5
      obtain ⟨A7, c7, rfl, hr7, _, _⟩ := own_slice ho5
      have hgS : (Value.slice A' i c').ownBlock ≠ some w.heap.size := own_apart HO3.out (by have := HWS.out; have := HGO.out; omega)
      have hgR : (Value.slice A' i c').ownBlock ≠ some (w.heap.size + 1) := own_apart HO3.out (by have := HWS.out; have := HGO.out; omega)
      have hgZ : (Value.slice A' i c').ownBlock ≠ some (w.heap.size + 1 + 1) := own_apart HO3.out (by have := HWS.out; have := HGO.out; omega)
      have hgo : (Value.slice A' i c').ownBlock ≠ some gO := own_apart HO3.out (by have := HGO.out; omega)
      have hs5 : Blk w5 (w.heap.size + 1) 59 #[.int .i64 t1, .slice (some ⟨bD, oD, none⟩) n1 c1, .int .i64 u1, .slice G1 gn1 gc1] ∧ w5.cell? ⟨bD, oD + k, none⟩ = some (.string v) := ⟨hHeld.1.grown hg5 hgR, hg5.cell hHeld.2 (Ne.symm (own_apart HO3.out (show bD < W2.heap.size by have := lt_of_cell HDw.out; have := HWS.out; have := HGO.out; omega)))⟩
      have HO5 := Lib.hid ho5
      have HKO5 := Lib.hid (HKO3.out.grown hg5 hgo)
      have HKS5 := Lib.hid (HKS3.out.grown hg5 hgS)
      have HKZ5 := Lib.hid (HKZ3.out.grown hg5 hgZ)
      have HB5 := Lib.hid (show Below w.heap.size w w5 from HB3.out.trans (grown_below (own_less HO3.out (by have := HWS.out; have := HGO.out; omega)) hg5 HB3.out.size))
      have HSZ5 := Lib.hid (show W2.heap.size ≤ w5.heap.size from Nat.le_trans HSZ3.out hg5.size)
      refine hK.out _ _ hs5 (fun hHeld => ?_)
      clear hK K
      (try simp only [Act.put, List.setIfInBounds_toArray, List.set_cons_zero, List.set_cons_succ])
      clear ho5 hg5 hd5 hs5 hr7 hgS hgR hgZ hgo HO3 HKO3 HKS3 HKZ3 HB3 HSZ3
      refine take_want (i := 9) (v := ?v9rb) rfl (by kernel_rfl) (by kernel_rfl) (by kernel_rfl) (fun _ _ _ h => h) (by rfl) ?y9rb (by assumption) ?r9rb
      case y9rb => (intro w hSw; go_simp; all_goals with_reducible rfl)
      (try simp only [Act.put, List.setIfInBounds_toArray, List.set_cons_zero, List.set_cons_succ])
      have o1 := HKO5.out.cell 1
      have f1 := HKO5.out.frozen 1
      simp at o1
      refine wpAnyH_ready (rs := [10]) (by kernel_rfl) (by simp) ?_
      refine AllReadyH.cons rfl (fun K hK => ?_) AllReadyH.nil
      go_simp
      have hne : gO ≠ w.heap.size + 1 := by have := HWS.out; omega
      have hs6 : Blk (w5.setCell ⟨gO, 1, none⟩ (.slice A7 (i + 1) c7)) (w.heap.size + 1) 59 #[.int .i64 t1, .slice (some ⟨bD, oD, none⟩) n1 c1, .int .i64 u1, .slice G1 gn1 gc1] ∧ (w5.setCell ⟨gO, 1, none⟩ (.slice A7 (i + 1) c7)).cell? ⟨bD, oD + k, none⟩ = some (.string v) := ⟨hHeld.1.far (by intro e; exact hne e.symm) _, (World.cell?_setCell_other _ _ _ _ (fun e => by have e2 := congrArg Addr.block e; simp at e2; have := lt_of_cell HDw.out; have := HWS.out; omega)).trans hHeld.2⟩
      refine hK.out _ _ hs6 (fun hHeld => ?_)
      clear hK K
      (try simp only [Act.put, List.setIfInBounds_toArray, List.set_cons_zero, List.set_cons_succ])
      refine wpAnyH_done (by kernel_rfl) ?_ _
      have HKO6 := Lib.hid (show Blk (w5.setCell ⟨gO, 1, none⟩ (.slice A7 (i + 1) c7)) gO 59 #[.int .i64 tt, .slice A7 (i + 1) c7, .int .i64 u1, .slice G1 gn1 gc1] from HKO5.out.set_ 1 _)
      have HKS6 := Lib.hid (show Blk (w5.setCell ⟨gO, 1, none⟩ (.slice A7 (i + 1) c7)) w.heap.size 24 #[.slice A n c, .slice B m d] from HKS5.out.far (by show w.heap.size ≠ gO; have := HWS.out; omega) _)
      have HKZ6 := Lib.hid (show Blk (w5.setCell ⟨gO, 1, none⟩ (.slice A7 (i + 1) c7)) (w.heap.size + 1 + 1) 59 #[.int .i64 0, .slice none 0 0, .int .i64 0, .slice none 0 0] from HKZ5.out.far (by show w.heap.size + 1 + 1 ≠ gO; have := HWS.out; omega) _)
      have HKR6 := Lib.hid hHeld.1
      have HO6 := Lib.hid (show (w5.setCell ⟨gO, 1, none⟩ (.slice A7 (i + 1) c7)).ownsRow W2.heap.size 9 1 (.slice A7 (i + 1) c7) (i + 1) (texts (pickL L1 (I ++ [k]))) from own_set' HO5.out (own_apart HO5.out (by have := HGO.out; omega)))
      have HB6 := Lib.hid (show Below w.heap.size w (w5.setCell ⟨gO, 1, none⟩ (.slice A7 (i + 1) c7)) from bset HB5.out (by have := HWS.out; omega) _)
      have HSZ6 := Lib.hid (show W2.heap.size ≤ (w5.setCell ⟨gO, 1, none⟩ (.slice A7 (i + 1) c7)).heap.size by have := HSZ5.out; simpa using this)
      clear o1 f1 hs6 hne hHeld HO5 HKO5 HKS5 HKZ5 HB5 HSZ5
      go_wp2_with fail
      go_roundw
      case rel => exact ⟨i + 1, A7, c7, I ++ [k], by go_num, by omega, Lib.hid (by rw [List.length_append, HIL.out]; rfl), HPN, HO6, HKO6, HKR6, HKS6, HKZ6, HB6, HSZ6⟩
      case measure => simp [intOf]; omega
end Go.Proofs.YtmmeekmiildliaaGreatDoor
namespace Go.Proofs.YtmmeekmiildliaaGreatDoor
open Go.RowKit Go.Shelf
set_option linter.unusedSimpArgs false
set_option linter.unusedVariables false
theorem plc_exists (L : List ByteArray) : ∀ M : List ByteArray, (∀ s ∈ M, s ∈ L) → ∃ I : List Nat, I.length = M.length ∧ PlcIs L M I := by
  intro M
  induction M with
  | nil => intro _; exact ⟨[], rfl, Nat.le_refl _, fun j h => by simp at h⟩
  | cons s M ih =>
    intro h
    obtain ⟨I, hl, hI⟩ := ih fun t ht => h t (List.mem_cons_of_mem _ ht)
    obtain ⟨k, hk, e⟩ := List.getElem_of_mem (h s (List.mem_cons_self ..))
    refine ⟨k :: I, by simp [hl], by simp [hl], fun j hj hm => ?_⟩
    cases j with
    | zero => exact ⟨hk, by simpa using e⟩
    | succ j =>
      have := hI.2 j (by simpa using hj) (by simpa using hm)
      simpa using this
theorem plc_uniq {L M : List ByteArray} {I J : List Nat} (hd : ∀ (i j : Nat) (hij : i < j) (hj : j < L.length), L[i] ≠ L[j]) (hI : PlcIs L M I) (hJ : PlcIs L M J) (h1 : I.length = M.length) (h2 : J.length = M.length) : I = J := by
  refine List.ext_getElem (by omega) fun j hj hj' => ?_
  obtain ⟨a, ea⟩ := hI.2 j hj (by omega)
  obtain ⟨b, eb⟩ := hJ.2 j hj' (by omega)
  rcases Nat.lt_trichotomy I[j] J[j] with h | h | h
  · exact absurd (ea.trans eb.symm) (hd _ _ h b)
  · exact h
  · exact absurd (eb.trans ea.symm) (hd _ _ h a)
def RProjPost (w : World) (g : Int) (L M : List ByteArray) (Z : List RZ) (e : Ending) (w' : World) : Prop :=
  (¬ subsetP M L ∧ e = .returned (.tuple #[.slice none 0 0, .int .i64 141]) ∧ Below w.heap.size w w') ∨
  (subsetP M L ∧ ¬ okGran g ∧ e = .returned (.tuple #[.slice none 0 0, .int .i64 111]) ∧ Below w.heap.size w w') ∨
  (subsetP M L ∧ okGran g ∧ ∃ I, PlcIs L M I ∧ I.length = M.length ∧ ∃ A c Y x, e = .returned (.tuple #[.slice A Y.length c, .int .i64 x]) ∧ refF [] (Z.map fun z => projR g I z.2) = (Y.map Prod.snd, x) ∧ RowsC w' A Y ∧ Below w.heap.size w w')
set_option maxRecDepth 100000 in
set_option maxHeartbeats 16000000 in
theorem refproject_any (A B C E : Option Addr) (n c m d k cap p pc q : Nat) (g : Int) (L M : List ByteArray) (Z : List RZ) (w : World) (hA : Row w A (texts L)) (hn : n = L.length) (hn2 : n ≤ 1000000) (hC : RowsC w C Z) (hk : k = Z.length) (hk2 : k ≤ 1000000)
    (hE : Row w E (texts M)) (hp : p = M.length) (hp2 : p ≤ 1000000) (hL : namesP L) (hZ : ∀ z ∈ Z, RowQ q L.length z.2 ∧ 0 ≤ z.2.t ∧ z.2.t ≤ 1099511627776) :
    Calls Tryz.prog 25 #[.agg #[.slice A n c, .slice B m d], .slice C k cap, .slice E p pc, .int .i64 g] w (RProjPost w g L M Z) := by
  obtain ⟨W1, hW1⟩ : ∃ W1, W1 = w.alloc (.cells #[.slice A n c, .slice B m d] 24) := ⟨_, rfl⟩
  have hb1 : Below w.heap.size w W1 := by rw [hW1]; exact bpush (Below.refl _ _) _
  have HB1 := Lib.hid hb1
  have HS01 := Lib.hid (show W1.cell? ⟨w.heap.size, 0, none⟩ = some (.slice A n c) ∧ W1.cell? ⟨w.heap.size, 1, none⟩ = some (.slice B m d) by rw [hW1]; exact ⟨cell_made rfl rfl, cell_made rfl rfl⟩)
  have HA := Lib.hid (hA.keep (Nat.le_refl _) hb1)
  have HC := Lib.hid (hC.keep hb1)
  have HE := Lib.hid (hE.keep (Nat.le_refl _) hb1)
  obtain ⟨r, hr⟩ := bool_of (M.Sublist L)
  have HR := Lib.hid (show r = true ↔ subsetP M L by rw [hr, sub_list hL])
  have HSB := Lib.hid (refsubset_any E A p pc n c M L W1 HE.out HA.out hp hn (by omega) (by omega) hL.2 r hr)
  have HN := Lib.hid hn
  have HK := Lib.hid hk
  have HP := Lib.hid hp
  have HZ := Lib.hid hZ
  have HL := Lib.hid hL
  have HW1 := Lib.hid hW1
  obtain ⟨i0, hi0, hz0, hz1, hz2⟩ := info_parts info27
  clear hA hC hE hn hk hp hL hZ hr hW1 hb1
  go_enter Tryz.func25, Tryz.ntmps25
  go_upto_region 1 with fail
  rw [← HW1.out]
  obtain ⟨s0, s1⟩ := HS01.out
  cases r with
  | false =>
    go_wp2_with (go_at_call 54; refine HSB.out.mono ?_; rintro e w1 ⟨rfl, rfl⟩)
    exact bodyPost_ret (v := .tuple #[.slice none 0 0, .int .i64 141]) (by simp [results, Tryz.results25, go_sem]) rfl (Or.inl ⟨(fun h => by have := HR.out.2 h; cases this), rfl, HB1.out⟩)
  | true =>
  have HSUB := Lib.hid (HR.out.1 rfl)
  by_cases hg : okGran g
  case neg =>
    have HG := Lib.hid hg
    clear hg
    go_wp2_with (first
      | (go_at_call 54; refine HSB.out.mono ?_; rintro e w1 ⟨rfl, rfl⟩)
      | (go_at_call 37; refine (rright_no _ _ HG.out).mono ?_; rintro e w1 ⟨rfl, rfl⟩))
    exact bodyPost_ret (v := .tuple #[.slice none 0 0, .int .i64 111]) (by simp [results, Tryz.results25, go_sem]) rfl (Or.inr (Or.inl ⟨HSUB.out, HG.out, rfl, HB1.out⟩))
  case pos =>
  have HG := Lib.hid hg
  clear hg
  obtain ⟨I, hIl, hI⟩ := plc_exists L M (names_in HSUB.out)
  have HI := Lib.hid hI
  have HIL := Lib.hid hIl
  clear hI hIl
  go_upto_region 7 with (first
    | (go_at_call 54; refine HSB.out.mono ?_; rintro e w1 ⟨rfl, rfl⟩)
    | (go_at_call 37; refine (rright_yes _ _ HG.out).mono ?_; rintro e w1 ⟨rfl, rfl⟩))
  clear s0 s1 HSB
  go_wp2_with fail
  go_loopw [12, 13] (fun v12 v13 wr => ∃ (j : Nat) (A' : Option Addr) (c' : Nat) (O : List RZ), v12 = .slice A' j c' ∧ v13 = .int .i64 j ∧ j ≤ k ∧ Hid (wr.ownsRow W1.heap.size 59 4 (.slice A' j c') j (cellsR O)) ∧ Hid (∀ y ∈ O, Pj W1 wr y) ∧ Hid (O.map Prod.snd = (Z.take j).map fun z => projR g I z.2) ∧ Hid (Below W1.heap.size W1 wr)) (fun _ v13 _ => k - (intOf v13).toNat)
  case atStart => exact ⟨0, none, 0, [], rfl, rfl, Nat.zero_le _, Lib.hid (World.ownsRow_nil _ _ _ _), Lib.hid (fun y hy => by cases hy), Lib.hid rfl, Lib.hid (Below.refl _ _)⟩
  case round =>
    obtain ⟨j, A', c', O, rfl, rfl, hjk, HO, HGO, HM, HB⟩ := hrel
    by_cases hlt : j < k
    case neg =>
      obtain rfl : j = k := by omega
      have hjz : ¬ ((j : Int) < (j : Int)) := by omega
      obtain ⟨hq, A5, c5, e5, hr5, hq1, hq2, hq3⟩ := own_sliceR HO.out
      cases e5
      have hmm : O.map Prod.snd = Z.map fun z => projR g I z.2 := by rw [HM.out, List.take_of_length_le (by rw [HK.out]; exact Nat.le_refl _)]
      have HMM := Lib.hid hmm
      have hct : ∀ z ∈ O, RowQ q M.length z.2 := fun z hz => by
        have h1 : z.2 ∈ O.map Prod.snd := List.mem_map.2 ⟨z, hz, rfl⟩
        rw [hmm] at h1
        obtain ⟨y, hy, e⟩ := List.mem_map.1 h1
        obtain ⟨h2, _⟩ := HZ.out y hy
        rw [← e]
        refine ⟨⟨h2.ok.lo, h2.ok.hi, h2.ok.len, h2.ok.aggs⟩, ?_⟩
        show (pickL y.2.dims I).length = _
        rw [pickL_len _ _ (fun i hi => by
          obtain ⟨a, ha, rfl⟩ := List.getElem_of_mem hi
          obtain ⟨h3, _⟩ := HI.out.2 a ha (by rw [← HIL.out]; exact ha)
          rw [h2.dims]; exact h3), HIL.out]
      have HFO := Lib.hid (reffold_any A' j c' q M.length O wr ⟨hr5, fun y hy => (HGO.out y hy).good HB.out⟩ hq hk2 hct)
      clear hlt hq hr5 hq1 hq2 hq3 hmm hct HGO
      go_wp2_with (go_at_call 49; refine HFO.out.mono ?_; rintro e w6 ⟨A6, Y6, c6, x6, rfl, hf6, hr6, hc6, hb6⟩; have HF6 := Lib.hid hf6; have HR6 := Lib.hid hr6; have HB6 := Lib.hid hb6; clear hf6 hr6 hc6 hb6)
      refine bodyPost_ret (v := .tuple #[.slice A6 Y6.length c6, .int .i64 x6]) (by simp [results, Tryz.results25, go_sem]) rfl (Or.inr (Or.inr ⟨HSUB.out, HG.out, I, HI.out, HIL.out, A6, c6, Y6, x6, rfl, ?_, HR6.out, ?_⟩))
      · have := HF6.out
        rw [HMM.out] at this
        exact this
      · exact bthen HB1.out (bthen HB.out HB6.out)
    case pos =>
    have hjz : (j : Int) < (k : Int) := by omega
    have hj0 : (0 : Int) ≤ (j : Int) := by omega
    have hjZ : j < Z.length := by have := HK.out; omega
    obtain ⟨x, hx⟩ : ∃ x, x = Z[j] := ⟨_, rfl⟩
    obtain ⟨bA, oA, hAe, x0, x1, x2, x3⟩ := row4 HC.out.row hjZ
    subst hAe
    rw [← hx] at x0 x1 x2 x3
    have hxz := HZ.out _ (List.getElem_mem hjZ)
    rw [← hx] at hxz
    have HX0 := Lib.hid (show Good W1 x by rw [hx]; exact HC.out.good _ (List.getElem_mem hjZ))
    have HTK := Lib.hid (show (Z.take (j + 1)).map (fun z => projR g I z.2) = (Z.take j).map (fun z => projR g I z.2) ++ [projR g I x.2] by rw [List.take_succ_eq_append_getElem hjZ, List.map_append, ← hx]; rfl)
    have HCR := Lib.hid (show ∀ W, Below W1.heap.size W1 W → Calls Tryz.prog 55 #[.agg #[.slice A n c, .slice B m d], .agg #[.int .i64 x.2.t, .slice x.1.D x.1.n x.1.c, .int .i64 x.2.count, .slice x.1.G x.1.gn x.1.gc], .slice E p pc, .int .i64 g] W (CRowPost W g L M x p) from fun W hW => crow_any A B E n c m d p pc g L M x W (HA.out.keep (Nat.le_refl _) hW) HN.out hn2 (HE.out.keep (Nat.le_refl _) hW) HP.out hp2 (names_in HSUB.out) (HX0.out.keep hW) hxz.1.dims ⟨HG.out, by have := hxz.2.1; omega, by have := hxz.2.2; omega⟩)
    clear hx
    obtain ⟨⟨D1, n1, c1, G1, gn1, gc1⟩, ⟨t1, L1, u1, X1⟩⟩ := x
    simp only at x0 x1 x2 x3 HTK hxz
    clear hxz
    have HXC := Lib.hid (And.intro x0 (And.intro x1 (And.intro x2 x3)))
    clear x0 x1 x2 x3
    go_upto_region 11 with fail
    obtain ⟨wd, hwd⟩ : ∃ wd, wd = wr.drew := ⟨_, rfl⟩
    have hbd : Below wr.heap.size wr wd := by rw [hwd]; exact below_drewN (Below.refl _ _) 1
    have HOd := Lib.hid (own_below HO.out hbd)
    have HGd := Lib.hid (show ∀ y ∈ O, Pj W1 wd y from fun y hy => (HGO.out y hy).keep hbd)
    have hs0 : (fun w' => Below W1.heap.size W1 w') wd := bthen HB.out hbd
    rw [hwd] at hs0
    refine wp_region_held_drew (S := fun w' => Below W1.heap.size W1 w') (by kernel_rfl) hs0 ?_
    intro hHeld
    rw [← hwd] at hHeld ⊢
    clear hwd hbd hs0 HO HGO HB hlt
    refine take_want (i := 0) (v := ?v0m) rfl (by kernel_rfl) (by kernel_rfl) (by kernel_rfl) (fun _ _ _ h => h) (by rfl) ?y0m (by assumption) ?r0m
    case y0m => (intro w hSw; go_simp; all_goals with_reducible rfl)
    (try simp only [Act.put, List.setIfInBounds_toArray, List.set_cons_zero, List.set_cons_succ])
    refine take_want (i := 1) (v := ?v1m) rfl (by kernel_rfl) (by kernel_rfl) (by kernel_rfl) (fun _ _ _ h => h) (by rfl) ?y1m (by assumption) ?r1m
    case y1m => (intro w hSw; obtain ⟨s0, s1⟩ := HS01.out; have s0 := cell_on hSw s0; have s1 := cell_on hSw s1; go_simp; all_goals with_reducible rfl)
    (try simp only [Act.put, List.setIfInBounds_toArray, List.set_cons_zero, List.set_cons_succ])
    refine take_want (i := 2) (v := ?v2m) rfl (by kernel_rfl) (by kernel_rfl) (by kernel_rfl) (fun _ _ _ h => h) (by rfl) ?y2m (by assumption) ?r2m
    case y2m => (intro w hSw; go_simp; all_goals with_reducible rfl)
    (try simp only [Act.put, List.setIfInBounds_toArray, List.set_cons_zero, List.set_cons_succ])
    refine take_want (i := 3) (v := ?v3m) rfl (by kernel_rfl) (by kernel_rfl) (by kernel_rfl) (fun _ _ _ h => h) (by rfl) ?y3m (by assumption) ?r3m
    case y3m => (intro w hSw; go_simp; all_goals with_reducible rfl)
    (try simp only [Act.put, List.setIfInBounds_toArray, List.set_cons_zero, List.set_cons_succ])
    refine take_want (i := 4) (v := ?v4m) rfl (by kernel_rfl) (by kernel_rfl) (by kernel_rfl) (fun _ _ _ h => h) (by rfl) ?y4m (by assumption) ?r4m
    case y4m => (intro w hSw; go_simp; all_goals with_reducible rfl)
    (try simp only [Act.put, List.setIfInBounds_toArray, List.set_cons_zero, List.set_cons_succ])
    refine take_want (i := 5) (v := ?v5m) rfl (by kernel_rfl) (by kernel_rfl) (by kernel_rfl) (fun _ _ _ h => h) (by rfl) ?y5m (by assumption) ?r5m
    case y5m => (intro w hSw; obtain ⟨x0, x1, x2, x3⟩ := HXC.out; have x0 := cell_on hSw x0; have x1 := cell_on hSw x1; have x2 := cell_on hSw x2; have x3 := cell_on hSw x3; go_simp; all_goals with_reducible rfl)
    (try simp only [Act.put, List.setIfInBounds_toArray, List.set_cons_zero, List.set_cons_succ])
    refine take_want (i := 6) (v := ?v6m) rfl (by kernel_rfl) (by kernel_rfl) (by kernel_rfl) (fun _ _ _ h => h) (by rfl) ?y6m (by assumption) ?r6m
    case y6m => (intro w hSw; go_simp; all_goals with_reducible rfl)
    (try simp only [Act.put, List.setIfInBounds_toArray, List.set_cons_zero, List.set_cons_succ])
    refine take_want (i := 7) (v := ?v7m) rfl (by kernel_rfl) (by kernel_rfl) (by kernel_rfl) (fun _ _ _ h => h) (by rfl) ?y7m (by assumption) ?r7m
    case y7m => (intro w hSw; go_simp; all_goals with_reducible rfl)
    (try simp only [Act.put, List.setIfInBounds_toArray, List.set_cons_zero, List.set_cons_succ])
    refine wpAnyH_ready (rs := [8]) (by kernel_rfl) (by simp) ?_
    refine AllReadyH.cons rfl (fun K hK => ?_) AllReadyH.nil
    go_simp
    (go_at_call 55; refine (HCR.out _ hHeld).mono ?_; rintro e V2 ⟨J, A5, c5, rfl, hJ, hJl, ho, hb⟩)
    have hJI : J = I := plc_uniq (fun a b hab hb => HL.out.2 a b hab hb) hJ HI.out (by rw [hJl, HP.out]) HIL.out
    subst hJI
    have HJL := Lib.hid hJl
    have hs2 : Below W1.heap.size W1 V2 := bthen hHeld hb
    have HO2 := Lib.hid (own_below HOd.out hb)
    have HG2 := Lib.hid (show ∀ y ∈ O, Pj W1 V2 y from fun y hy => (HGd.out y hy).keep hb)
    have HD2 := Lib.hid (own_less ho hHeld.size)
    refine hK.out _ _ hs2 (fun hHeld => ?_)
    clear hK K
    (try simp only [Act.put, List.setIfInBounds_toArray, List.set_cons_zero, List.set_cons_succ])
    clear hb ho hs2 hJ hJl HOd HGd
    obtain ⟨tt, htt⟩ : ∃ tt, tt = flr t1 g := ⟨_, rfl⟩
    have HTT := Lib.hid htt
    simp only [← htt]
    clear htt
    refine wpAnyH_ready (rs := [9]) (by kernel_rfl) (by simp) ?_
    refine AllReadyH.cons rfl (fun K hK => ?_) AllReadyH.nil
    go_simp
    obtain ⟨V3, hV3⟩ : ∃ V3, V3 = V2.alloc (.cells #[.int .i64 tt, .slice A5 p c5, .int .i64 u1, .slice G1 gn1 gc1] 59) := ⟨_, rfl⟩
    have hb3 : Below V2.heap.size V2 V3 := by rw [hV3]; exact bpush (Below.refl _ _) _
    have HNW := Lib.hid (show Row V3 (some ⟨V2.heap.size, 0, none⟩) [.int .i64 tt, .slice A5 p c5, .int .i64 u1, .slice G1 gn1 gc1] by rw [hV3]; exact Row.made rfl rfl)
    have hs2 : Below W1.heap.size W1 V3 := bthen hHeld hb3
    have HO3 := Lib.hid (own_below HO2.out hb3)
    have HG3 := Lib.hid (show ∀ y ∈ O, Pj W1 V3 y from fun y hy => (HG2.out y hy).keep hb3)
    have HD3 := Lib.hid (own_below HD2.out hb3)
    rw [← hV3]
    refine hK.out _ _ hs2 (fun hHeld => ?_)
    clear hK K
    (try simp only [Act.put, List.setIfInBounds_toArray, List.set_cons_zero, List.set_cons_succ])
    clear hb3 hV3 hs2 HO2 HG2 HD2
    refine wpAnyH_ready (rs := [10]) (by kernel_rfl) (by simp) ?_
    refine AllReadyH.cons rfl (fun K hK => ?_) AllReadyH.nil
    refine step_append_at rfl _ _ 46 rfl W1.heap.size 59 i0 (.agg #[.int .i64 0, .slice none 0 0, .int .i64 0, .slice none 0 0]) 4 64 Tryz.underlying46 hi0 hz0 hz1 hz2 rfl (by decide) (.slice A' j c') j (cellsR O) (by first | rfl | (simp; done)) HO3.out ⟨V2.heap.size, 0, none⟩ 1 1 [.int .i64 tt, .slice A5 p c5, .int .i64 u1, .slice G1 gn1 gc1] (by first | rfl | (simp; done)) rfl HNW.out.at' (by intro u hu; simp at hu; rcases hu with rfl | rfl | rfl | rfl <;> rfl) (by unfold maxLen; omega) (by omega) hHeld.size ?_
    intro v5 w5 ho5 hg5 hd5
    have ho6 : w5.ownsRow W1.heap.size 59 4 v5 (j + 1) (cellsR (O ++ [(⟨A5, p, c5, G1, gn1, gc1⟩, ⟨tt, pickL L1 J, u1, X1⟩)])) := by rw [cellsR_app]; exact ho5
    obtain ⟨A7, c7, rfl⟩ := own_is ho6
    have hs5 : Below W1.heap.size W1 w5 := hHeld.trans (grown_below4 HO3.out hg5 hHeld.size)
    have HO5 := Lib.hid ho6
    have HG5 := Lib.hid hg5
    refine hK.out _ _ hs5 (fun hHeld => ?_)
    clear hK K
    (try simp only [Act.put, List.setIfInBounds_toArray, List.set_cons_zero, List.set_cons_succ])
    clear ho5 ho6 hg5 hd5 hs5
    refine take_want (i := 11) (v := ?v11m) rfl (by kernel_rfl) (by kernel_rfl) (by kernel_rfl) (fun _ _ _ h => h) (by rfl) ?y11m (by assumption) ?r11m
    case y11m => (intro w hSw; go_simp; all_goals with_reducible rfl)
    (try simp only [Act.put, List.setIfInBounds_toArray, List.set_cons_zero, List.set_cons_succ])
    refine wpAnyH_done (by kernel_rfl) ?_ _
    have HPN := Lib.hid (show ∀ y ∈ O ++ [((⟨A5, p, c5, G1, gn1, gc1⟩, ⟨tt, pickL L1 J, u1, X1⟩) : RZ)], Pj W1 w5 y from fun y hy => by
      rcases List.mem_append.1 hy with hy | hy
      · exact (HG3.out y hy).app HO3.out HG5.out
      · rw [List.mem_singleton.1 hy]
        exact ⟨HD3.out.kept HG5.out (own_not_own HD3.out HO3.out (by decide)), by show p * 16 ≤ _; omega, HX0.out.rg, HX0.out.ng, HX0.out.cg, HX0.out.ag, HX0.out.sg⟩)
    have HMN := Lib.hid (show (O ++ [((⟨A5, p, c5, G1, gn1, gc1⟩, ⟨tt, pickL L1 J, u1, X1⟩) : RZ)]).map Prod.snd = (Z.take (j + 1)).map (fun z => projR g J z.2) by
      rw [List.map_append, HM.out, HTK.out]
      unfold projR
      rw [← HTT.out]; rfl)
    have HBN := Lib.hid hHeld
    clear hHeld
    go_wp2_with fail
    go_roundw
    case rel => exact ⟨j + 1, A7, c7, _, rfl, by go_num, by omega, HO5, HPN, HMN, HBN⟩
    case measure => simp [intOf]; omega
end Go.Proofs.YtmmeekmiildliaaGreatDoor
namespace Go.Proofs.YtmmeekmiildliaaGreatDoor
open Go.RowKit Go.Shelf
end Go.Proofs.YtmmeekmiildliaaGreatDoor
