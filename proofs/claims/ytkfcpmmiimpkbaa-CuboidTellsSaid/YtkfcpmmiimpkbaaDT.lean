/- The document's Subset; Within. The document's Within. Schema. The document's Row. The document's Project. What Project and Schema leave, and the document's; the walk of CuboidTells. -/
import Derived.Test.YtkfcpmmiimpkbaaCX
import Derived.Deep.RegionWith
import Derived.Test.YtkfcpmmiimpkbaaCD
import Derived.Test.YtkfcpmmiimpkbaaCY
namespace Go.Proofs.Ytkfcpmmiimpkbaa
open Go.RowKit
set_option linter.unusedSimpArgs false
set_option linter.unusedVariables false
theorem first_drop {M : List ByteArray} {s : ByteArray} {i t : Nat} (h : FirstAt M s (some i)) (ht : t ≤ i) : FirstAt (M.drop t) s (some (i - t)) := by
  obtain ⟨hi, e, hn⟩ := h
  refine ⟨by rw [List.length_drop]; omega, ?_, fun j hj => ?_⟩
  · rw [List.getElem_drop]; simp only [show t + (i - t) = i by omega]; exact e
  · rw [List.getElem_drop]; exact hn (t + j) (by omega)
theorem first_drop_none {M : List ByteArray} {s : ByteArray} {t : Nat} (h : FirstAt M s none) : FirstAt (M.drop t) s none := fun j hj => by
  rw [List.getElem_drop]; exact h (t + j) (by rw [List.length_drop] at hj; omega)
theorem first_drop_past {M : List ByteArray} {s : ByteArray} {i t : Nat} (ha : apartP M) (h : FirstAt M s (some i)) (ht : i < t) : FirstAt (M.drop t) s none := fun j hj e => by
  rw [List.getElem_drop] at e
  rw [List.length_drop] at hj
  obtain ⟨hi, e1, _⟩ := h
  exact ha i (t + j) (by omega) (by omega) (e1.trans e.symm)
set_option maxRecDepth 100000 in
set_option maxHeartbeats 8000000 in
theorem refsubset_any (A B : Option Addr) (n c m d : Nat) (L M : List ByteArray) (w : World) (hA : Row w A (texts L)) (hB : Row w B (texts M)) (hn : n = L.length) (hm : m = M.length)
    (hn2 : n ≤ 9223372036854775807) (hm2 : m ≤ 9223372036854775807) (ha : apartP M) (r : Bool) (hr : r = true ↔ L.Sublist M) :
    Calls Try.prog 28 #[.slice A n c, .slice B m d] w fun e w' => e = .returned (.bool r) ∧ w = w' := by
  have HA := Lib.hid hA
  have HB := Lib.hid hB
  have HN := Lib.hid hn
  have HM := Lib.hid hm
  have HR := Lib.hid hr
  have HAP := Lib.hid ha
  clear hA hB hn hm hr ha
  go_enter Try.func28, Try.ntmps28
  go_wp2_with fail
  go_loop [5, 6] (fun v i => ∃ (k t : Nat) (u : Int), k ≤ n ∧ i = .int .i64 k ∧ v = .int .i64 u ∧ Hid (u = (t : Int) - 1) ∧ Hid (r = true ↔ (L.drop k).Sublist (M.drop t))) (fun _ i => n - (intOf i).toNat)
  case atStart => exact ⟨0, 0, -1, Nat.zero_le _, rfl, rfl, Lib.hid (by omega), HR⟩
  case round =>
    obtain ⟨k, t, u, hk, rfl, rfl, HU, HS⟩ := hrel
    by_cases hlt : k < n
    · have hkz : k < L.length := by have := HN.out; omega
      have hki : (k : Int) < (n : Int) := by omega
      have hk0 : (0 : Int) ≤ (k : Int) := by omega
      obtain ⟨b, off, hAe, c0⟩ := text_cell HA.out hkz
      obtain ⟨s, hs⟩ : ∃ s, s = L[k] := ⟨_, rfl⟩
      rw [← hs] at c0
      have HT := Lib.hid (show L.drop k = s :: L.drop (k + 1) by rw [hs]; exact List.drop_eq_getElem_cons hkz)
      subst hAe
      clear hs
      go_wp2_with fail
      refine (find_any B m d M s _ HB.out HM.out hm2).mono ?_
      rintro e w2 ⟨⟨o, ho, rfl⟩, rfl⟩
      have HO := Lib.hid ho
      clear ho
      cases o with
      | none =>
        obtain rfl : r = false := by
          cases r with
          | false => rfl
          | true => have := HS.out.1 rfl; rw [HT.out] at this; exact absurd this (sub_none (first_drop_none HO.out))
        have e1 : (none : Option Nat).getD 0 = 0 := rfl
        have e2 : (none : Option Nat).isSome = false := rfl
        rw [e1, e2]
        clear hlt
        go_wp2_with fail
        go_ret
        exact ⟨rfl, rfl⟩
      | some i =>
        have e1 : (some i).getD 0 = i := rfl
        have e2 : (some i).isSome = true := rfl
        rw [e1, e2]
        by_cases hit : i < t
        · obtain rfl : r = false := by
            cases r with
            | false => rfl
            | true => have := HS.out.1 rfl; rw [HT.out] at this; exact absurd this (sub_none (first_drop_past HAP.out HO.out hit))
          have d1 : decide ((i : Int) ≤ u) = true := by have := HU.out; simp; omega
          have d2 : (i : Int) ≤ u := by have := HU.out; omega
          clear hlt hit
          go_wp2_with fail
          go_ret
          exact ⟨rfl, rfl⟩
        · have d1 : decide ((i : Int) ≤ u) = false := by have := HU.out; simp; omega
          have HS2 := Lib.hid (show r = true ↔ (L.drop (k + 1)).Sublist (M.drop (i + 1)) by
            have := HS.out
            rw [HT.out, sub_some (first_drop HO.out (by omega)), List.drop_drop] at this
            rw [show t + (i - t + 1) = i + 1 by omega] at this
            exact this)
          clear hlt hit
          go_wp2_with fail
          go_round
          case rel => exact ⟨k + 1, i + 1, i, by omega, by go_num, rfl, Lib.hid (by omega), HS2⟩
          case measure => simp [intOf]; omega
    · have hge : ¬ (k : Int) < (n : Int) := by omega
      obtain rfl : r = true := HS.out.2 (by rw [List.drop_of_length_le (by have := HN.out; omega)]; exact List.nil_sublist _)
      clear hlt
      go_wp2_with fail
      go_ret
      exact ⟨rfl, rfl⟩
open Go.Shelf in
theorem inside_at (a b : Addr) (x y t : Int) (W : World) (h : W.cell? a = some (.int .i64 x)) (h2 : W.cell? b = some (.int .i64 y)) : Calls Try.prog 34 (#[.int .i64 t] ++ #[.pointer (some a), .pointer (some b)]) W fun e W' => e = .returned (.bool (decide (x ≤ t ∧ t < y))) ∧ W = W' := by
  show Calls Try.prog 34 #[.int .i64 t, .pointer (some a), .pointer (some b)] W _
  go_enter Try.func34, Try.ntmps34
  by_cases h3 : x ≤ t
  · by_cases h4 : t < y
    · go_wp2_with fail
      go_ret
      exact ⟨by simp [h3, h4], rfl⟩
    · go_wp2_with fail
      go_ret
      exact ⟨by simp [h3, h4], rfl⟩
  · go_wp2_with fail
    go_ret
    exact ⟨by have h5 : decide (x ≤ t) = false := decide_eq_false (by omega)
              rw [h5]; rfl, rfl⟩
open Go.Shelf in
def WithinPost (w : World) (x y : Int) (Z : List RZ) (e : Ending) (w' : World) : Prop := ∃ A n c Y, e = .returned (.slice A n c) ∧ n = Y.length ∧ n ≤ Z.length ∧ RowsC w' A Y ∧ n ≤ c ∧ (Y.map Prod.snd = (Z.map Prod.snd).filter fun r => decide (x ≤ r.t ∧ r.t < y)) ∧ Below w.heap.size w w'
open Go.Shelf in
set_option maxRecDepth 100000 in
set_option maxHeartbeats 8000000 in
theorem within_any (C : Option Addr) (k cap : Nat) (x y : Int) (Z : List RZ) (w : World) (hC : RowsC w C Z) (hk : k = Z.length) (hk2 : k ≤ 1000000) :
    Calls Try.prog 15 #[.slice C k cap, .int .i64 x, .int .i64 y] w (WithinPost w x y Z) := by
  obtain ⟨W1, hW1⟩ : ∃ W1, W1 = (w.alloc (.cells #[.int .i64 x] 3)).alloc (.cells #[.int .i64 y] 3) := ⟨_, rfl⟩
  have hb0 : Below w.heap.size w (w.alloc (.cells #[.int .i64 x] 3)) := bpush (Below.refl _ _) _
  have hb1 : Below w.heap.size w W1 := by rw [hW1]; exact bpush hb0 _
  have hbb : Below (w.alloc (.cells #[.int .i64 x] 3)).heap.size (w.alloc (.cells #[.int .i64 x] 3)) W1 := by rw [hW1]; exact bpush (Below.refl _ _) _
  have hx : W1.cell? ⟨w.heap.size, 0, none⟩ = some (.int .i64 x) := cell_on hbb (cell_made rfl rfl)
  have hy : W1.cell? ⟨w.heap.size + 1, 0, none⟩ = some (.int .i64 y) := by rw [hW1]; exact cell_made (by simp) rfl
  have H1 := Lib.hid (those_any C k cap 34 #[.pointer (some ⟨w.heap.size, 0, none⟩), .pointer (some ⟨w.heap.size + 1, 0, none⟩)] (fun t => decide (x ≤ t ∧ t < y)) Z W1 (hC.keep hb1) hk hk2 (fun args w => rfl) (fun W hW t => inside_at _ _ _ _ _ _ (cell_on hW hx) (cell_on hW hy)))
  have HB1 := Lib.hid hb1
  have HW1 := Lib.hid hW1
  clear hC hk hx hy hb1 hb0 hbb hW1
  go_enter Try.func15, Try.ntmps15
  go_upto_region 1 with fail
  rw [← HW1.out]
  clear HW1
  go_wp2_with (go_at_call 33; refine H1.out.mono ?_; rintro e w2 ⟨A1, n1, c1, Y1, rfl, hn1, ho1, hm1, hy1, hb1⟩; have HN1 := Lib.hid hn1; have HO1 := Lib.hid ho1; have HM1 := Lib.hid hm1; have HY1 := Lib.hid hy1; have HBB := Lib.hid hb1; clear hn1 ho1 hm1 hy1 hb1)
  obtain ⟨q0, A3, c3, e3, r3, q1, _, _⟩ := own_sliceR HO1.out
  cases e3
  go_ret
  refine ⟨A1, n1, c1, Y1, rfl, q0, by rw [HN1.out]; exact List.length_filter_le _ _, ⟨r3, fun y hy => (HY1.out y hy).good⟩, q1, ?_, bthen HB1.out HBB.out⟩
  rw [HM1.out]
  unfold stay; rw [List.filter_map]; rfl
end Go.Proofs.Ytkfcpmmiimpkbaa
namespace Go.Proofs.Ytkfcpmmiimpkbaa
open Go.RowKit Go.Shelf
set_option linter.unusedSimpArgs false
set_option linter.unusedVariables false
set_option maxRecDepth 100000 in
set_option maxHeartbeats 8000000 in
theorem refwithin_any (C : Option Addr) (k cap : Nat) (x y : Int) (Z : List RZ) (w : World) (hC : RowsC w C Z) (hk : k = Z.length) (hk2 : k ≤ 1000000) :
    Calls Try.prog 16 #[.slice C k cap, .int .i64 x, .int .i64 y] w (WithinPost w x y Z) := by
  have HC := Lib.hid hC
  have HK := Lib.hid hk
  obtain ⟨st, hst⟩ : ∃ st : Int → Bool, st = fun t => decide (x ≤ t ∧ t < y) := ⟨_, rfl⟩
  have HST := Lib.hid hst
  clear hC hk hst
  go_enter Try.func16, Try.ntmps16
  go_wp2_with fail
  go_loopw [7, 8] (fun v7 v8 wr => ∃ (i q : Nat) (A' : Option Addr) (c' : Nat), v7 = .slice A' q c' ∧ v8 = .int .i64 i ∧ i ≤ k ∧ q ≤ i ∧ Hid (wr.ownsRow w.heap.size 45 4 (.slice A' q c') q (cellsR (stay st (Z.take i)))) ∧ Hid (Below w.heap.size w wr)) (fun _ v8 _ => k - (intOf v8).toNat)
  case atStart => exact ⟨0, 0, none, 0, rfl, rfl, Nat.zero_le _, Nat.le_refl _, Lib.hid (World.ownsRow_nil _ _ _ _), Lib.hid (Below.refl _ _)⟩
  case round =>
    obtain ⟨i, q, A', c', rfl, rfl, hik, hqi, HO, HB⟩ := hrel
    by_cases hlt : i < k
    case neg =>
      obtain rfl : i = k := by omega
      have hjz : ¬ ((i : Int) < (i : Int)) := by omega
      have HSTK := Lib.hid (show stay st (Z.take i) = stay st Z by rw [List.take_of_length_le (by rw [HK.out]; exact Nat.le_refl _)])
      clear hlt
      go_wp2_with fail
      go_ret
      have ho := HO.out
      rw [HSTK.out] at ho
      obtain ⟨q0, A3, c3, e3, r3, q1, _, _⟩ := own_sliceR ho
      cases e3
      refine ⟨A', q, c', stay st Z, rfl, q0, by rw [q0]; exact List.length_filter_le _ _, ⟨r3, fun z hz => (HC.out.good z (List.mem_filter.1 hz).1).keep HB.out⟩, q1, ?_, HB.out⟩
      unfold stay; rw [HST.out, List.filter_map]; rfl
    case pos =>
    have hjz : (i : Int) < (k : Int) := by omega
    have hj0 : (0 : Int) ≤ (i : Int) := by omega
    have hiZ : i < Z.length := by have := HK.out; omega
    obtain ⟨z, hz⟩ : ∃ z, z = Z[i] := ⟨_, rfl⟩
    obtain ⟨bA, oA, hAe, x0, x1, x2, x3⟩ := row4 ((HC.out.keep HB.out).row) hiZ
    subst hAe
    rw [← hz] at x0 x1 x2 x3
    have htk : Z.take (i + 1) = Z.take i ++ [z] := by rw [List.take_succ_eq_append_getElem hiZ, hz]
    have HT := Lib.hid (show stay st (Z.take (i + 1)) = stay st (Z.take i) ++ if st z.2.t then [z] else [] by
      rw [htk]; unfold stay; rw [List.filter_append]; cases h : st z.2.t <;> simp [List.filter_cons, h])
    clear hz htk hlt
    obtain ⟨⟨D1, n1, c1, G1, gn1, gc1⟩, ⟨t1, L1, u1, X1⟩⟩ := z
    simp only at x0 x1 x2 x3 HT
    by_cases h1 : x ≤ t1
    case neg =>
      have HF := Lib.hid (show st t1 = false by rw [HST.out]; exact decide_eq_false (fun h => h1 h.1))
      have h1' : ¬ (t1 ≥ x) := h1
      go_wp2_with fail
      go_roundw
      case rel => exact ⟨i + 1, q, A', c', rfl, by go_num, by omega, by omega, Lib.hid (by rw [HT.out, HF.out]; simpa using HO.out), HB⟩
      case measure => simp [intOf]; omega
    case pos =>
    by_cases h2 : t1 < y
    case neg =>
      have HF := Lib.hid (show st t1 = false by rw [HST.out]; exact decide_eq_false (fun h => h2 h.2))
      go_wp2_with fail
      go_roundw
      case rel => exact ⟨i + 1, q, A', c', rfl, by go_num, by omega, by omega, Lib.hid (by rw [HT.out, HF.out]; simpa using HO.out), HB⟩
      case measure => simp [intOf]; omega
    case pos =>
    have HF := Lib.hid (show st t1 = true by rw [HST.out]; exact decide_eq_true ⟨h1, h2⟩)
    have HZR := Lib.hid (show Row (wr.alloc (.cells #[.int .i64 t1, .slice D1 n1 c1, .int .i64 u1, .slice G1 gn1 gc1] 45)) (some ⟨wr.heap.size, 0, none⟩) (cellsR [((⟨D1, n1, c1, G1, gn1, gc1⟩, ⟨t1, L1, u1, X1⟩) : RZ)]) by rw [cellsR_one]; exact Row.made (t := 45) rfl rfl)
    have HSZ := Lib.hid (show w.heap.size ≤ (wr.alloc (.cells #[.int .i64 t1, .slice D1 n1 c1, .int .i64 u1, .slice G1 gn1 gc1] 45)).heap.size by have := HB.out.size; simp; omega)
    have HK64 := Lib.hid (show (q + 1) * 64 ≤ 140737488355328 by omega)
    have HNN := Lib.hid (show (some (⟨wr.heap.size, 0, none⟩ : Addr)) = none → 1 = 0 from fun h => by cases h)
    go_upto_region 4 with (at_builtin; refine wpList_append_rows rfl _ _ rfl w.heap.size (.slice A' q c') q (cellsR (stay st (Z.take i))) rfl (some ⟨wr.heap.size, 0, none⟩) 1 1 [(⟨D1, n1, c1, G1, gn1, gc1⟩, ⟨t1, L1, u1, X1⟩)] rfl (HO.out.alloc _) HZR.out rfl (Nat.le_refl _) HNN.out HK64.out HSZ.out ?_; intro v6 w6 ho6 hg6; rw [← cellsR_app] at ho6; obtain ⟨A6, c6, rfl⟩ := own_is ho6; have HO6 := Lib.hid ho6; have HG6 := Lib.hid hg6; clear ho6 hg6)
    have HB6 := Lib.hid (show Below w.heap.size w w6 from (HB.out.alloc HB.out.size _).trans (grown_below4 (HO.out.alloc _) HG6.out (by have := HB.out.size; simp; omega)))
    go_wp2_with fail
    go_roundw
    case rel => exact ⟨i + 1, q + 1, A6, c6, rfl, by go_num, by omega, by omega, Lib.hid (by rw [HT.out, HF.out]; exact HO6.out), HB6⟩
    case measure => simp [intOf]; omega
theorem sub_list {L M : List ByteArray} (h : namesP M) : subsetP L M ↔ L.Sublist M := by
  refine ⟨fun h => h.2, fun k => ⟨⟨fun s hs => h.1 s (k.subset hs), ?_⟩, k⟩⟩
  have : M.Pairwise (· ≠ ·) := List.pairwise_iff_getElem.2 fun i j hi hj hij => h.2 i j hij hj
  have h2 := List.Pairwise.sublist k this
  exact fun i j hij hj => List.pairwise_iff_getElem.1 h2 i j (by omega) hj hij
set_option maxRecDepth 100000 in
set_option maxHeartbeats 8000000 in
theorem refschema_any (A B E : Option Addr) (n c m d p pc : Nat) (L M : List ByteArray) (w : World) (hA : Row w A (texts L)) (hn : n = L.length) (hn2 : n ≤ 9223372036854775807) (hE : Row w E (texts M)) (hp : p = M.length) (hp2 : p ≤ 9223372036854775807) (hL : namesP L) :
    Calls Try.prog 12 #[.agg #[.slice A n c, .slice B m d], .slice E p pc] w fun e w' => ((¬ subsetP M L ∧ e = .returned (.tuple #[.agg #[.slice none 0 0, .slice none 0 0], .int .i64 141])) ∨ (subsetP M L ∧ e = .returned (.tuple #[.agg #[.slice E p pc, .slice B m d], .int .i64 0]))) ∧ Below w.heap.size w w' := by
  obtain ⟨r, hr⟩ := bool_of (M.Sublist L)
  have HR := Lib.hid (show r = true ↔ subsetP M L by rw [hr, sub_list hL])
  have HS := Lib.hid (show ∀ W, Below w.heap.size w W → Calls Try.prog 28 #[.slice E p pc, .slice A n c] W (fun e w' => e = .returned (.bool r) ∧ W = w') from fun W hW => refsubset_any E A p pc n c M L W (hE.keep (Nat.le_refl _) hW) (hA.keep (Nat.le_refl _) hW) hp hn hp2 hn2 hL.2 r hr)
  clear hA hn hn2 hE hp hp2 hL hr
  go_enter Try.func12, Try.ntmps12
  go_upto_region 2 with (go_at_call 28; refine (HS.out _ (bpush (bpush (Below.refl _ _) _) _)).mono ?_; rintro e w1 ⟨rfl, rfl⟩)
  clear HS
  cases r with
  | false =>
    have HN := Lib.hid (show ¬ subsetP M L from fun h => by have := HR.out.2 h; cases this)
    clear HR
    go_wp2_with fail
    refine bodyPost_ret (v := .tuple #[.agg #[.slice none 0 0, .slice none 0 0], .int .i64 141]) (by simp [results, Try.results12, go_sem]) rfl ⟨.inl ⟨HN.out, rfl⟩, ?_⟩
    repeat (first | exact Below.refl _ _ | refine bset ?_ (by simp) _ | refine bpush ?_ _)
  | true =>
    have HN := Lib.hid (show subsetP M L from HR.out.1 rfl)
    clear HR
    go_wp2_with fail
    refine bodyPost_ret (v := .tuple #[.agg #[.slice E p pc, .slice B m d], .int .i64 0]) (by simp [results, Try.results12, go_sem]) rfl ⟨.inr ⟨HN.out, rfl⟩, ?_⟩
    repeat (first | exact Below.refl _ _ | refine bset ?_ (by simp) _ | refine bpush ?_ _)
end Go.Proofs.Ytkfcpmmiimpkbaa
namespace Go.Proofs.Ytkfcpmmiimpkbaa
open Go.RowKit Go.Shelf
set_option linter.unusedSimpArgs false
set_option linter.unusedVariables false
def SchemaPost (w : World) (L M N : List ByteArray) (e : Ending) (w' : World) : Prop :=
  ((¬ subsetP M L ∧ e = .returned (.tuple #[.agg #[.slice none 0 0, .slice none 0 0], .int .i64 141])) ∨ (subsetP M L ∧ ∃ D1 k1 D2 k2, e = .returned (.tuple #[.agg #[.slice D1 M.length k1, .slice D2 N.length k2], .int .i64 0]) ∧ Row w' D1 (texts M) ∧ Row w' D2 (texts N))) ∧ Below w.heap.size w w'
set_option maxRecDepth 100000 in
set_option maxHeartbeats 8000000 in
theorem schema_any (A B E : Option Addr) (n c m d p pc : Nat) (L M N : List ByteArray) (w : World) (hA : Row w A (texts L)) (hn : n = L.length) (hnc : n ≤ c) (hn2 : n ≤ 1000000) (hc2 : c ≤ 9223372036854775807) (hB : Row w B (texts N)) (hm : m = N.length) (hmd : m ≤ d) (hb0 : B = none → d = 0) (hm2 : m ≤ 1000000) (hE : Row w E (texts M)) (hp : p = M.length) (hpc : p ≤ pc) (he : E = none → pc = 0) (hp2 : p ≤ 1000000) (hM : ∀ s ∈ M, s.size ≤ 9223372036854775807) :
    Calls Try.prog 11 #[.agg #[.slice A n c, .slice B m d], .slice E p pc] w (SchemaPost w L M N) := by
  obtain ⟨W1, hW1⟩ : ∃ W1, W1 = (w.alloc (.cells #[.slice A n c, .slice B m d] 24)).alloc (.cells #[.slice none 0 0, .slice none 0 0] 24) := ⟨_, rfl⟩
  have hb1 : Below w.heap.size w W1 := by rw [hW1]; exact bpush (bpush (Below.refl _ _) _) _
  have hk1 : Blk W1 w.heap.size 24 #[.slice A n c, .slice B m d] := by rw [hW1]; exact (Blk.new _ _ _).alloc _
  have hk2 : Blk W1 (w.heap.size + 1) 24 #[.slice none 0 0, .slice none 0 0] := by
    rw [hW1]; have := Blk.new (w.alloc (.cells #[.slice A n c, .slice B m d] 24)) 24 #[.slice none 0 0, .slice none 0 0]; simpa using this
  have HB1 := Lib.hid hb1
  have HK1 := Lib.hid hk1
  have HK2 := Lib.hid hk2
  obtain ⟨r, hr⟩ := bool_of (subsetP M L)
  have HR := Lib.hid hr
  have HS := Lib.hid (subset_any E A p pc n c M L W1 (hE.keep (Nat.le_refl _) hb1) (hA.keep (Nat.le_refl _) hb1) hp hn hpc hnc hM (by omega) hc2 r hr)
  have HE := Lib.hid (hE.keep (Nat.le_refl _) hb1)
  have HB := Lib.hid (hB.keep (Nat.le_refl _) hb1)
  have HCL := Lib.hid (show ∀ W, Row W E (texts M) → Calls Try.prog 31 #[.slice E p pc] W _ from fun W h => cloneT_any E p pc (texts M) W h (by simp [texts, hp]) (by simp [texts, Value.oneCell']) hpc he (by omega))
  have HCM := Lib.hid (show ∀ W, Row W B (texts N) → Calls Try.prog 31 #[.slice B m d] W _ from fun W h => cloneT_any B m d (texts N) W h (by simp [texts, hm]) (by simp [texts, Value.oneCell']) hmd hb0 (by omega))
  have HP := Lib.hid hp
  have HM' := Lib.hid hm
  have HW1 := Lib.hid hW1
  have s0 := hk1.cell 0
  have s1 := hk1.cell 1
  simp at s0 s1
  clear hA hB hE hn hnc hm hmd hb0 hp hpc he hM hr hW1 hb1 hk1 hk2 hc2
  go_enter Try.func11, Try.ntmps11
  go_upto_region 1 with fail
  rw [← HW1.out]
  cases r with
  | false =>
    have HN := Lib.hid (show ¬ subsetP M L from fun h => by have := HR.out.2 h; cases this)
    clear HR
    go_upto_region 2 with (go_at_call 22; refine HS.out.mono ?_; rintro e w1 ⟨rfl, hb⟩; have HBB := Lib.hid hb; clear hb)
    have HK1' := Lib.hid (show Blk w1 w.heap.size 24 #[.slice A n c, .slice B m d] from (HBB.out.block _ HK1.out.lt).trans HK1.out)
    have HK2' := Lib.hid (show Blk w1 (w.heap.size + 1) 24 #[.slice none 0 0, .slice none 0 0] from (HBB.out.block _ HK2.out.lt).trans HK2.out)
    clear s0 s1 HS
    have s0 := HK1'.out.cell 0
    have s1 := HK1'.out.cell 1
    have z0 := HK2'.out.cell 0
    have z1 := HK2'.out.cell 1
    have f0 := HK2'.out.frozen 0
    have f1 := HK2'.out.frozen 1
    simp at s0 s1 z0 z1
    have HVV := Lib.hid (show ∀ (V : World) (x y : Value), Blk V (w.heap.size + 1) 24 #[.slice none 0 0, .slice none 0 0] → (V.setCell ⟨w.heap.size + 1, 0, none⟩ x).cell? ⟨w.heap.size + 1, 0, none⟩ = some x ∧ ((V.setCell ⟨w.heap.size + 1, 0, none⟩ x).setCell ⟨w.heap.size + 1, 1, none⟩ y).cell? ⟨w.heap.size + 1, 1, none⟩ = some y from fun V x y h => by
      have h1 := (h.set_ 0 x).cell 0
      have h2 := ((h.set_ 0 x).set_ 1 y).cell 1
      simp at h1 h2
      exact ⟨h1, h2⟩)
    have HV0 := Lib.hid (HVV.out w1 (.slice none 0 0) (.slice none 0 0) HK2'.out)
    go_wp2_with fail
    refine bodyPost_ret (v := .tuple #[.agg #[.slice none 0 0, .slice none 0 0], .int .i64 141]) (by simp [results, Try.results11, go_sem, HV0.out.1, HV0.out.2]) rfl ⟨.inl ⟨HN.out, rfl⟩, ?_⟩
    exact bset (bset (bthen HB1.out HBB.out) (by simp) _) (by simp) _
  | true =>
    have HN := Lib.hid (show subsetP M L from HR.out.1 rfl)
    clear HR
    go_upto_region 3 with (go_at_call 22; refine HS.out.mono ?_; rintro e w1 ⟨rfl, hb⟩; have HBB := Lib.hid hb; clear hb)
    have HK1' := Lib.hid (show Blk w1 w.heap.size 24 #[.slice A n c, .slice B m d] from (HBB.out.block _ HK1.out.lt).trans HK1.out)
    have HK2' := Lib.hid (show Blk w1 (w.heap.size + 1) 24 #[.slice none 0 0, .slice none 0 0] from (HBB.out.block _ HK2.out.lt).trans HK2.out)
    clear s0 s1 HS
    have s0 := HK1'.out.cell 0
    have s1 := HK1'.out.cell 1
    have z0 := HK2'.out.cell 0
    have z1 := HK2'.out.cell 1
    have f0 := HK2'.out.frozen 0
    have f1 := HK2'.out.frozen 1
    simp at s0 s1 z0 z1
    have HVV := Lib.hid (show ∀ (V : World) (x y : Value), Blk V (w.heap.size + 1) 24 #[.slice none 0 0, .slice none 0 0] → (V.setCell ⟨w.heap.size + 1, 0, none⟩ x).cell? ⟨w.heap.size + 1, 0, none⟩ = some x ∧ ((V.setCell ⟨w.heap.size + 1, 0, none⟩ x).setCell ⟨w.heap.size + 1, 1, none⟩ y).cell? ⟨w.heap.size + 1, 1, none⟩ = some y from fun V x y h => by
      have h1 := (h.set_ 0 x).cell 0
      have h2 := ((h.set_ 0 x).set_ 1 y).cell 1
      simp at h1 h2
      exact ⟨h1, h2⟩)
    have HV0 := Lib.hid (HVV.out w1 (.slice none 0 0) (.slice none 0 0) HK2'.out)
    clear s0 s1 z0 z1 f0 f1
    refine wp_region_held_drew (S := fun w' => Blk w' w.heap.size 24 #[.slice A n c, .slice B m d]) (by kernel_rfl) HK1'.out ?_
    intro hHeld
    obtain ⟨wd, hwd⟩ : ∃ wd, wd = w1.drew := ⟨_, rfl⟩
    have hbd : Below w1.heap.size w1 wd := by rw [hwd]; exact below_drewN (Below.refl _ _) 1
    have HKd := Lib.hid (show Blk wd (w.heap.size + 1) 24 #[.slice none 0 0, .slice none 0 0] from (hbd.block _ HK2'.out.lt).trans HK2'.out)
    have HBd := Lib.hid (bthen HBB.out hbd)
    rw [← hwd] at hHeld ⊢
    clear hwd hbd
    refine take_want (i := 0) (v := ?v0z) rfl (by kernel_rfl) (by kernel_rfl) (by kernel_rfl) (fun _ _ _ h => h) (by rfl) ?y0z (by assumption) ?r0z
    case y0z => (intro w hSw; go_simp; all_goals with_reducible rfl)
    (try simp only [Act.put, List.setIfInBounds_toArray, List.set_cons_zero, List.set_cons_succ])
    refine take_want (i := 2) (v := ?v2z) rfl (by kernel_rfl) (by kernel_rfl) (by kernel_rfl) (fun _ _ _ h => h) (by rfl) ?y2z (by assumption) ?r2z
    case y2z => (intro w hSw; go_simp; all_goals with_reducible rfl)
    (try simp only [Act.put, List.setIfInBounds_toArray, List.set_cons_zero, List.set_cons_succ])
    refine take_want (i := 3) (v := ?v3z) rfl (by kernel_rfl) (by kernel_rfl) (by kernel_rfl) (fun _ _ _ h => h) (by rfl) ?y3z (by assumption) ?r3z
    case y3z => (intro w hSw; have r1 := hSw.cell 1; simp at r1; go_simp; all_goals with_reducible rfl)
    (try simp only [Act.put, List.setIfInBounds_toArray, List.set_cons_zero, List.set_cons_succ])
    refine wpAnyH_ready (rs := [1]) (by kernel_rfl) (by simp) ?_
    refine AllReadyH.cons rfl (fun K hK => ?_) AllReadyH.nil
    go_simp
    (go_at_call 31; refine (HCL.out _ (HE.out.keep (Nat.le_refl _) HBd.out)).mono ?_; rintro e V2 ⟨D1, k1, rfl, ho, hb⟩)
    have hs2 : Blk V2 w.heap.size 24 #[.slice A n c, .slice B m d] := (hb.block _ hHeld.lt).trans hHeld
    have HK2d := Lib.hid (show Blk V2 (w.heap.size + 1) 24 #[.slice none 0 0, .slice none 0 0] from (hb.block _ HKd.out.lt).trans HKd.out)
    have HB2 := Lib.hid (bthen HBd.out hb)
    have HO1 := Lib.hid ho
    refine hK.out _ _ hs2 (fun hHeld => ?_)
    clear hK K
    (try simp only [Act.put, List.setIfInBounds_toArray, List.set_cons_zero, List.set_cons_succ])
    clear hb ho hs2
    refine wpAnyH_ready (rs := [4]) (by kernel_rfl) (by simp) ?_
    refine AllReadyH.cons rfl (fun K hK => ?_) AllReadyH.nil
    go_simp
    (go_at_call 31; refine (HCM.out _ (HB.out.keep (Nat.le_refl _) HB2.out)).mono ?_; rintro e V3 ⟨D2, k2, rfl, ho, hb⟩)
    have hs2 : Blk V3 w.heap.size 24 #[.slice A n c, .slice B m d] := (hb.block _ hHeld.lt).trans hHeld
    have HK3d := Lib.hid (show Blk V3 (w.heap.size + 1) 24 #[.slice none 0 0, .slice none 0 0] from (hb.block _ HK2d.out.lt).trans HK2d.out)
    have HB3 := Lib.hid (bthen HB2.out hb)
    have HO2 := Lib.hid ho
    have HO1' := Lib.hid (own_below HO1.out hb)
    refine hK.out _ _ hs2 (fun hHeld => ?_)
    clear hK K
    (try simp only [Act.put, List.setIfInBounds_toArray, List.set_cons_zero, List.set_cons_succ])
    clear hb ho hs2
    refine take_want (i := 5) (v := ?v5z) rfl (by kernel_rfl) (by kernel_rfl) (by kernel_rfl) (fun _ _ _ h => h) (by rfl) ?y5z (by assumption) ?r5z
    case y5z => (intro w hSw; go_simp; all_goals with_reducible rfl)
    (try simp only [Act.put, List.setIfInBounds_toArray, List.set_cons_zero, List.set_cons_succ])
    have z0 := HK3d.out.cell 0
    have z1 := HK3d.out.cell 1
    have f0 := HK3d.out.frozen 0
    have f1 := HK3d.out.frozen 1
    simp at z0 z1
    refine wpAnyH_ready (rs := [6]) (by kernel_rfl) (by simp) ?_
    refine AllReadyH.cons rfl (fun K hK => ?_) AllReadyH.nil
    go_simp
    have hs2 : Blk ((V3.setCell ⟨w.heap.size + 1, 0, none⟩ (.slice D1 p k1)).setCell ⟨w.heap.size + 1, 1, none⟩ (.slice D2 m k2)) w.heap.size 24 #[.slice A n c, .slice B m d] := (hHeld.far (by simp) _).far (by simp) _
    have HV3 := Lib.hid (HVV.out V3 (.slice D1 p k1) (.slice D2 m k2) HK3d.out)
    have HR1 := Lib.hid (ownsRow_setCell_below (ownsRow_setCell_below HO1'.out (a := ⟨w.heap.size + 1, 0, none⟩) HKd.out.lt (.slice D1 p k1)) (a := ⟨w.heap.size + 1, 1, none⟩) HKd.out.lt (.slice D2 m k2))
    have HR2 := Lib.hid (ownsRow_setCell_below (ownsRow_setCell_below HO2.out (a := ⟨w.heap.size + 1, 0, none⟩) HK2d.out.lt (.slice D1 p k1)) (a := ⟨w.heap.size + 1, 1, none⟩) HK2d.out.lt (.slice D2 m k2))
    have HBV := Lib.hid (show Below w.heap.size w ((V3.setCell ⟨w.heap.size + 1, 0, none⟩ (.slice D1 p k1)).setCell ⟨w.heap.size + 1, 1, none⟩ (.slice D2 m k2)) from bset (bset (bthen HB1.out HB3.out) (by simp) _) (by simp) _)
    refine hK.out _ _ hs2 (fun hHeld => ?_)
    clear hK K hs2
    (try simp only [Act.put, List.setIfInBounds_toArray, List.set_cons_zero, List.set_cons_succ])
    refine take_want (i := 7) (v := ?v7z) rfl (by kernel_rfl) (by kernel_rfl) (by kernel_rfl) (fun _ _ _ h => h) (by rfl) ?y7z (by assumption) ?r7z
    case y7z => (intro w hSw; go_simp; all_goals with_reducible rfl)
    (try simp only [Act.put, List.setIfInBounds_toArray, List.set_cons_zero, List.set_cons_succ])
    refine wpAnyH_done (by kernel_rfl) ?_ _
    go_wp2_with fail
    refine bodyPost_ret (v := .tuple #[.agg #[.slice D1 p k1, .slice D2 m k2], .int .i64 0]) (by simp [results, Try.results11, go_sem, HV3.out.1, HV3.out.2]) rfl ⟨.inr ⟨HN.out, D1, k1, D2, k2, by rw [HP.out, HM'.out], ?_, ?_⟩, HBV.out⟩
    · obtain ⟨X, y, e, hr, _⟩ := own_slice HR1.out
      cases e; exact hr
    · obtain ⟨X, y, e, hr, _⟩ := own_slice HR2.out
      cases e; exact hr
end Go.Proofs.Ytkfcpmmiimpkbaa
namespace Go.Proofs.Ytkfcpmmiimpkbaa
open Go.RowKit Go.Shelf
set_option linter.unusedSimpArgs false
set_option linter.unusedVariables false
def CRowPost (w : World) (g : Int) (L M : List ByteArray) (y : RZ) (p : Nat) (e : Ending) (w' : World) : Prop :=
  ∃ I A5 c5, e = .returned (.agg #[.int .i64 (flr y.2.t g), .slice A5 p c5, .int .i64 y.2.count, .slice y.1.G y.1.gn y.1.gc]) ∧ PlcIs L M I ∧ I.length = p ∧ w'.ownsRow w.heap.size 9 1 (.slice A5 p c5) p (texts (pickL y.2.dims I)) ∧ Below w.heap.size w w'
theorem first_exists : ∀ (L : List ByteArray) (s : ByteArray), ∃ o, FirstAt L s o := fun L s => by
  by_cases h : ∃ k, ∃ hk : k < L.length, L[k] = s
  · obtain ⟨k, hk, e, hm⟩ : ∃ k, ∃ hk : k < L.length, L[k] = s ∧ ∀ j (hj : j < L.length), j < k → L[j] ≠ s := by
      obtain ⟨k, hk, e⟩ := h
      induction k using Nat.strongRecOn with
      | ind k ih =>
        by_cases hx : ∃ j, ∃ hj : j < L.length, j < k ∧ L[j] = s
        · obtain ⟨j, hj, hjk, e2⟩ := hx; exact ih j hjk hj e2
        · exact ⟨k, hk, e, fun j hj hjk e2 => hx ⟨j, hj, hjk, e2⟩⟩
    exact ⟨some k, hk, e, fun j hj => hm j (by omega) hj⟩
  · exact ⟨none, fun k hk e => h ⟨k, hk, e⟩⟩
theorem first_uniq {L : List ByteArray} {s : ByteArray} {o : Option Nat} {k : Nat} (h : FirstAt L s o) (h2 : FirstAt L s (some k)) : o = some k := by
  obtain ⟨hk, e, hm⟩ := h2
  cases o with
  | none => exact absurd e (h k hk)
  | some j =>
    obtain ⟨hj, e2, hm2⟩ := h
    rcases Nat.lt_trichotomy j k with hl | hl | hl
    · exact absurd e2 (hm j hl)
    · rw [hl]
    · exact absurd e (hm2 k hl)
set_option maxRecDepth 100000 in
set_option maxHeartbeats 8000000 in
theorem crow_any (A B E : Option Addr) (n c m d p pc : Nat) (g : Int) (L M : List ByteArray) (y : RZ) (w : World) (hA : Row w A (texts L)) (hn : n = L.length) (hn2 : n ≤ 1000000) (hE : Row w E (texts M)) (hp : p = M.length) (hp2 : p ≤ 1000000) (hM : ∀ s ∈ M, s ∈ L) (hy : Good w y) (hyl : y.2.dims.length = L.length) (hg : okBoth y.2.t g) :
    Calls Try.prog 30 #[.agg #[.slice A n c, .slice B m d], .agg #[.int .i64 y.2.t, .slice y.1.D y.1.n y.1.c, .int .i64 y.2.count, .slice y.1.G y.1.gn y.1.gc], .slice E p pc, .int .i64 g] w (CRowPost w g L M y p) := by
  have HYG := Lib.hid hy
  have HYL := Lib.hid hyl
  have HA := Lib.hid hA
  have HE := Lib.hid hE
  have HN := Lib.hid hn
  have HP := Lib.hid hp
  have HM := Lib.hid hM
  obtain ⟨⟨D1, n1, c1, G1, gn1, gc1⟩, ⟨t1, L1, u1, X1⟩⟩ := y
  simp only at HYL hg
  obtain ⟨tt, htt⟩ : ∃ tt, tt = flr t1 g := ⟨_, rfl⟩
  have HTT := Lib.hid htt
  have HFL := Lib.hid (show ∀ W, Calls Try.prog 55 #[.int .i64 t1, .int .i64 g] W fun e w' => e = .returned (.tuple #[.int .i64 tt, .int .i64 0]) ∧ W = w' from fun W => by rw [htt]; exact rFloor_good t1 g W hg)
  obtain ⟨W1, hW1⟩ : ∃ W1, W1 = ((w.alloc (.cells #[.slice A n c, .slice B m d] 24)).alloc (.cells #[.int .i64 t1, .slice D1 n1 c1, .int .i64 u1, .slice G1 gn1 gc1] 45)).alloc (.cells #[.int .i64 0, .slice none 0 0, .int .i64 0, .slice none 0 0] 45) := ⟨_, rfl⟩
  have HW1 := Lib.hid hW1
  obtain ⟨gS, hgS⟩ : ∃ gS, gS = w.heap.size := ⟨_, rfl⟩
  have HB1 := Lib.hid (show Below w.heap.size w W1 by rw [hW1]; exact bpush (bpush (bpush (Below.refl _ _) _) _) _)
  have HKS := Lib.hid (show Blk W1 w.heap.size 24 #[.slice A n c, .slice B m d] by rw [hW1]; exact ((Blk.new _ _ _).alloc _).alloc _)
  have HKR := Lib.hid (show Blk W1 (w.heap.size + 1) 45 #[.int .i64 t1, .slice D1 n1 c1, .int .i64 u1, .slice G1 gn1 gc1] by
    rw [hW1]; have := (Blk.new (w.alloc (.cells #[.slice A n c, .slice B m d] 24)) 45 #[.int .i64 t1, .slice D1 n1 c1, .int .i64 u1, .slice G1 gn1 gc1]).alloc (.cells #[.int .i64 0, .slice none 0 0, .int .i64 0, .slice none 0 0] 45); simpa using this)
  have HKZ := Lib.hid (show Blk W1 (w.heap.size + 1 + 1) 45 #[.int .i64 0, .slice none 0 0, .int .i64 0, .slice none 0 0] by
    rw [hW1]; have := Blk.new ((w.alloc (.cells #[.slice A n c, .slice B m d] 24)).alloc (.cells #[.int .i64 t1, .slice D1 n1 c1, .int .i64 u1, .slice G1 gn1 gc1] 45)) 45 #[.int .i64 0, .slice none 0 0, .int .i64 0, .slice none 0 0]; simpa using this)
  have HWS := Lib.hid (show W1.heap.size = w.heap.size + 1 + 1 + 1 by rw [hW1]; simp)
  clear hA hn hE hp hM hy hyl hg htt hW1 hgS
  obtain ⟨i0, hi0, hz0, hz1, hz2⟩ := info_parts cinfo22
  go_enter Try.func30, Try.ntmps30
  go_upto_region 1 with fail
  rw [← HW1.out]
  have r0 := HKR.out.cell 0
  have r1 := HKR.out.cell 1
  have r2 := HKR.out.cell 2
  have r3 := HKR.out.cell 3
  simp at r0 r1 r2 r3
  go_upto_region 3 with (go_at_call 55; refine (HFL.out _).mono ?_; rintro e w1 ⟨rfl, rfl⟩)
  obtain ⟨W2, hW2⟩ : ∃ W2, W2 = W1.alloc (.cells #[.int .i64 tt, .slice none 0 0, .int .i64 u1, .slice G1 gn1 gc1] 45) := ⟨_, rfl⟩
  have hb2 : Below W1.heap.size W1 W2 := by rw [hW2]; exact bpush (Below.refl _ _) _
  have HB2 := Lib.hid (bthen HB1.out hb2)
  have HKR2 := Lib.hid (HKR.out.below hb2 (HKR.out.lt))
  have HKS2 := Lib.hid (HKS.out.below hb2 (HKS.out.lt))
  have HKZ2 := Lib.hid (HKZ.out.below hb2 (HKZ.out.lt))
  have HKO2 := Lib.hid (show Blk W2 W1.heap.size 45 #[.int .i64 tt, .slice none 0 0, .int .i64 u1, .slice G1 gn1 gc1] by rw [hW2]; exact Blk.new _ _ _)
  have hgO : W2.heap.size = W1.heap.size + 1 := by rw [hW2]; simp
  have hws := HWS.out
  rw [← hW2]
  clear hW2 hb2 r0 r1 r2 r3
  obtain ⟨gO, hgO2⟩ : ∃ gO, gO = W1.heap.size := ⟨_, rfl⟩
  rw [← hgO2] at HKO2 hgO hws ⊢
  clear hgO2 HKR HKS HKZ HB1 HWS HFL HW1
  have HGO := Lib.hid hgO
  have HWS := Lib.hid hws
  clear hgO hws
  go_wp2_with fail
  go_loopw [12] (fun v12 wr => ∃ (i : Nat) (A' : Option Addr) (c' : Nat) (I : List Nat), v12 = .int .i64 i ∧ i ≤ p ∧ Hid (I.length = i) ∧ Hid (PlcIs L M I) ∧ Hid (wr.ownsRow W2.heap.size 9 1 (.slice A' i c') i (texts (pickL L1 I))) ∧ Hid (Blk wr gO 45 #[.int .i64 tt, .slice A' i c', .int .i64 u1, .slice G1 gn1 gc1]) ∧ Hid (Blk wr (w.heap.size + 1) 45 #[.int .i64 t1, .slice D1 n1 c1, .int .i64 u1, .slice G1 gn1 gc1]) ∧ Hid (Blk wr w.heap.size 24 #[.slice A n c, .slice B m d]) ∧ Hid (Blk wr (w.heap.size + 1 + 1) 45 #[.int .i64 0, .slice none 0 0, .int .i64 0, .slice none 0 0]) ∧ Hid (Below w.heap.size w wr) ∧ Hid (W2.heap.size ≤ wr.heap.size)) (fun v12 _ => p - (intOf v12).toNat)
  case atStart => exact ⟨0, none, 0, [], rfl, Nat.zero_le _, Lib.hid rfl, Lib.hid ⟨Nat.zero_le _, fun j h => by simp at h⟩, Lib.hid (World.ownsRow_nil _ _ _ _), HKO2, HKR2, HKS2, HKZ2, HB2, Lib.hid (Nat.le_refl _)⟩
  case round =>
    clear HKO2 HKR2 HKS2 HKZ2 HB2
    obtain ⟨i, A', c', I, rfl, hip, HIL, HPI, HO, HKO, HKR, HKS, HKZ, HB, HSZ⟩ := hrel
    by_cases hlt : i < p
    case neg =>
      obtain rfl : i = p := by omega
      have hjz : ¬ ((i : Int) < (i : Int)) := by omega
      clear hlt
      have o0 := HKO.out.cell 0
      have o1 := HKO.out.cell 1
      have o2 := HKO.out.cell 2
      have o3 := HKO.out.cell 3
      have z0 := HKZ.out.cell 0
      have z1 := HKZ.out.cell 1
      have z2 := HKZ.out.cell 2
      have z3 := HKZ.out.cell 3
      have f0 := HKZ.out.frozen 0
      have f1 := HKZ.out.frozen 1
      have f2 := HKZ.out.frozen 2
      have f3 := HKZ.out.frozen 3
      simp at o0 o1 o2 o3 z0 z1 z2 z3
      obtain ⟨W3, hW3⟩ : ∃ W3, W3 = (((wr.setCell ⟨w.heap.size + 1 + 1, 0, none⟩ (.int .i64 tt)).setCell ⟨w.heap.size + 1 + 1, 1, none⟩ (.slice A' i c')).setCell ⟨w.heap.size + 1 + 1, 2, none⟩ (.int .i64 u1)).setCell ⟨w.heap.size + 1 + 1, 3, none⟩ (.slice G1 gn1 gc1) := ⟨_, rfl⟩
      have HK3 := Lib.hid (show Blk W3 (w.heap.size + 1 + 1) 45 #[.int .i64 tt, .slice A' i c', .int .i64 u1, .slice G1 gn1 gc1] by rw [hW3]; exact (((HKZ.out.set_ 0 _).set_ 1 _).set_ 2 _).set_ 3 _)
      have HB3 := Lib.hid (show Below w.heap.size w W3 by rw [hW3]; exact bset (bset (bset (bset HB.out (by omega) _) (by omega) _) (by omega) _) (by omega) _)
      have hav : (Value.slice A' i c').ownBlock ≠ some (w.heap.size + 1 + 1) := fun e => by
        rcases HO.out.2 with ⟨h, _⟩ | ⟨g', cap, cur, h, hg', _⟩
        · cases h; simp [Value.ownBlock] at e
        · have hgo := HGO.out
          have hws := HWS.out
          rw [h] at e; simp [Value.ownBlock] at e; omega
      have HO3 := Lib.hid (show W3.ownsRow w.heap.size 9 1 (.slice A' i c') i (texts (pickL L1 I)) by
        rw [hW3]
        refine own_set' (own_set' (own_set' (own_set' (own_less HO.out ?_) hav) hav) hav) hav
        have := HGO.out; have := HWS.out; omega)
      have HW3 := Lib.hid hW3.symm
      clear hW3 hav
      have q0 := HK3.out.cell 0
      have q1 := HK3.out.cell 1
      have q2 := HK3.out.cell 2
      have q3 := HK3.out.cell 3
      simp at q0 q1 q2 q3
      go_wp2_with fail
      rw [HW3.out]
      refine bodyPost_ret (v := .agg #[.int .i64 tt, .slice A' i c', .int .i64 u1, .slice G1 gn1 gc1]) (by simp [results, Try.results30, go_sem, q0, q1, q2, q3]) rfl ⟨I, A', c', by rw [HTT.out], HPI.out, HIL.out, HO3.out, HB3.out⟩
    case pos =>
    have hjz : (i : Int) < (p : Int) := by omega
    have hj0 : (0 : Int) ≤ (i : Int) := by omega
    have hiM : i < M.length := by have := HP.out; omega
    obtain ⟨bE, oE, hEe, hc⟩ := text_cell (HE.out.keep (Nat.le_refl _) HB.out) hiM
    subst hEe
    obtain ⟨s, hs⟩ : ∃ s, s = M[i] := ⟨_, rfl⟩
    rw [← hs] at hc
    have HSM := Lib.hid (show s ∈ L from HM.out s (by rw [hs]; exact List.getElem_mem hiM))
    have HSI := Lib.hid hs
    clear hs
    obtain ⟨k, hk⟩ : ∃ k, FirstAt L s (some k) := by
      have hx := first_exists L s
      obtain ⟨o, ho⟩ := hx
      cases o with
      | some k => exact ⟨k, ho⟩
      | none =>
        obtain ⟨q, hq, e⟩ := List.getElem_of_mem HSM.out
        exact absurd e (ho q hq)
    have HKK := Lib.hid hk
    have hkL : k < L.length := hk.1
    have hkl1 : k < L1.length := by have := HYL.out; omega
    have HPN := Lib.hid (show PlcIs L M (I ++ [k]) from ⟨by rw [List.length_append, HIL.out]; simp; omega, fun q hq hqm => by
      rw [List.length_append, HIL.out] at hq
      rcases Nat.lt_or_ge q i with h | h
      · rw [List.getElem_append_left (by rw [HIL.out]; exact h)]
        exact HPI.out.2 q (by rw [HIL.out]; exact h) hqm
      · have hqj : q = i := by simp at hq; omega
        subst hqj
        rw [List.getElem_append_right (by rw [HIL.out]; exact Nat.le_refl _)]
        simp only [HIL.out, Nat.sub_self, List.getElem_cons_zero]
        exact ⟨HKK.out.1, by rw [HKK.out.2.1, HSI.out]⟩⟩)
    have HTN := Lib.hid (pickL_snoc L1 I k hkl1)
    have HFD := Lib.hid (show ∀ W, Row W A (texts L) → Calls Try.prog 54 #[.slice A n c, .string s] W fun e w' => e = .returned (.tuple #[.int .i64 (k : Int), .bool true]) ∧ w' = W from fun W hW => (find_any A n c L s W hW HN.out (by have := HN.out; omega)).mono fun e w' ⟨⟨o, ho, he⟩, hw⟩ => by
      have := first_uniq ho HKK.out
      subst this
      exact ⟨he, hw.symm⟩)
    have HAW := Lib.hid (show ∀ z, Row (wr.drewN z) A (texts L) from fun z => HA.out.keep (Nat.le_refl _) (below_drewN HB.out z))
    have s0 := HKS.out.cell 0
    simp at s0
    obtain ⟨bD, oD, hDe, hd0⟩ := text_cell (show Row w D1 (texts L1) from HYG.out.rd) hkl1
    obtain ⟨bD', oD', hDe', hd⟩ := text_cell (show Row wr D1 (texts L1) from (HYG.out.rd.keep (Nat.le_refl _) HB.out)) hkl1
    subst hDe
    cases hDe'
    obtain ⟨v, hv⟩ : ∃ v, v = L1[k] := ⟨_, rfl⟩
    rw [← hv] at hd hd0 HTN
    have hkn : (k : Int) < (n1 : Int) := by have h := HYG.out.nd; simp only at h; omega
    have hk0 : (0 : Int) ≤ (k : Int) := by omega
    have HD := Lib.hid hd
    have HDW := Lib.hid hd0
    clear hk hkL hkl1 hd hd0 hv hlt
    go_upto_region 6 with fail
    go_quiet ((go_at_call 54; exact Calls.quiet_of_same (HFD.out _ (HAW.out _))))
    go_upto_region 7 with fail
    obtain ⟨wd, hwd⟩ : ∃ wd, wd = (wr.drewN nq).drew := ⟨_, rfl⟩
    have hbd : Below wr.heap.size wr wd := by rw [hwd]; exact below_drewN (below_drewN (Below.refl _ _) nq) 1
    have HOd := Lib.hid (own_below HO.out hbd)
    have HKOd := Lib.hid (HKO.out.below hbd HKO.out.lt)
    have HKSd := Lib.hid (HKS.out.below hbd HKS.out.lt)
    have HKZd := Lib.hid (HKZ.out.below hbd HKZ.out.lt)
    have HBd := Lib.hid (bthen HB.out hbd)
    have HSZd := Lib.hid (show W2.heap.size ≤ wd.heap.size from Nat.le_trans HSZ.out hbd.size)
    have hs0 : (fun w' => Blk w' (w.heap.size + 1) 45 #[.int .i64 t1, .slice (some ⟨bD, oD, none⟩) n1 c1, .int .i64 u1, .slice G1 gn1 gc1] ∧ w'.cell? ⟨bD, oD + k, none⟩ = some (.string v)) wd := ⟨HKR.out.below hbd HKR.out.lt, cell_on hbd HD.out⟩
    have HDw := HDW
    rw [hwd] at hs0
    refine wp_region_held_drew (S := fun w' => Blk w' (w.heap.size + 1) 45 #[.int .i64 t1, .slice (some ⟨bD, oD, none⟩) n1 c1, .int .i64 u1, .slice G1 gn1 gc1] ∧ w'.cell? ⟨bD, oD + k, none⟩ = some (.string v)) (by kernel_rfl) hs0 ?_
    intro hHeld
    rw [← hwd] at hHeld ⊢
    have o1 := HKOd.out.cell 1
    simp at o1
    clear hwd hbd hs0 HO HKO HKR HKS HKZ HB HSZ HD HDW s0 hc
    refine take_want (i := 0) (v := ?v0r) rfl (by kernel_rfl) (by kernel_rfl) (by kernel_rfl) (fun _ _ _ h => h) (by rfl) ?y0r (by assumption) ?r0r
    case y0r => (intro w hSw; go_simp; all_goals with_reducible rfl)
    (try simp only [Act.put, List.setIfInBounds_toArray, List.set_cons_zero, List.set_cons_succ])
    refine take_want (i := 2) (v := ?v2r) rfl (by kernel_rfl) (by kernel_rfl) (by kernel_rfl) (fun _ _ _ h => h) (by rfl) ?y2r (by assumption) ?r2r
    case y2r => (intro w hSw; go_simp; all_goals with_reducible rfl)
    (try simp only [Act.put, List.setIfInBounds_toArray, List.set_cons_zero, List.set_cons_succ])
    refine take_want (i := 3) (v := ?v3r) rfl (by kernel_rfl) (by kernel_rfl) (by kernel_rfl) (fun _ _ _ h => h) (by rfl) ?y3r (by assumption) ?r3r
    case y3r => (intro w hSw; have r0 := hSw.1.cell 0; have r1 := hSw.1.cell 1; have r2 := hSw.1.cell 2; have r3 := hSw.1.cell 3; simp at r0 r1 r2 r3; have rt := hSw.2; go_simp; all_goals with_reducible rfl)
    (try simp only [Act.put, List.setIfInBounds_toArray, List.set_cons_zero, List.set_cons_succ])
    refine take_want (i := 4) (v := ?v4r) rfl (by kernel_rfl) (by kernel_rfl) (by kernel_rfl) (fun _ _ _ h => h) (by rfl) ?y4r (by assumption) ?r4r
    case y4r => (intro w hSw; go_simp; all_goals with_reducible rfl)
    (try simp only [Act.put, List.setIfInBounds_toArray, List.set_cons_zero, List.set_cons_succ])
    refine take_want (i := 5) (v := ?v5r) rfl (by kernel_rfl) (by kernel_rfl) (by kernel_rfl) (fun _ _ _ h => h) (by rfl) ?y5r (by assumption) ?r5r
    case y5r => (intro w hSw; go_simp; all_goals with_reducible rfl)
    (try simp only [Act.put, List.setIfInBounds_toArray, List.set_cons_zero, List.set_cons_succ])
    refine take_want (i := 6) (v := ?v6r) rfl (by kernel_rfl) (by kernel_rfl) (by kernel_rfl) (fun _ _ _ h => h) (by rfl) ?y6r (by assumption) ?r6r
    case y6r => (intro w hSw; have rt := hSw.2; go_simp; all_goals with_reducible rfl)
    (try simp only [Act.put, List.setIfInBounds_toArray, List.set_cons_zero, List.set_cons_succ])
    refine wpAnyH_ready (rs := [1, 7]) (by kernel_rfl) (by simp) ?_
    refine AllReadyH.cons rfl (fun K hK => ?_) (AllReadyH.cons rfl (fun K hK => ?_) AllReadyH.nil)
    · skip
      go_simp
      refine hK.out _ _ hHeld (fun hHeld => ?_)
      clear hK K
      (try simp only [Act.put, List.setIfInBounds_toArray, List.set_cons_zero, List.set_cons_succ])
      refine wpAnyH_ready (rs := [7]) (by kernel_rfl) (by simp) ?_
      refine AllReadyH.cons rfl (fun K hK => ?_) AllReadyH.nil
      go_simp
      obtain ⟨V3, hV3⟩ : ∃ V3, V3 = wd.alloc (.cells #[.string v] 9) := ⟨_, rfl⟩
      have hb3 : Below wd.heap.size wd V3 := by rw [hV3]; exact bpush (Below.refl _ _) _
      have HNW := Lib.hid (show Row V3 (some ⟨wd.heap.size, 0, none⟩) [.string v] by rw [hV3]; exact Row.made rfl rfl)
      have hs2 : Blk V3 (w.heap.size + 1) 45 #[.int .i64 t1, .slice (some ⟨bD, oD, none⟩) n1 c1, .int .i64 u1, .slice G1 gn1 gc1] ∧ V3.cell? ⟨bD, oD + k, none⟩ = some (.string v) := ⟨hHeld.1.below hb3 hHeld.1.lt, cell_on hb3 hHeld.2⟩
      have HO3 := Lib.hid (own_below HOd.out hb3)
      have HKO3 := Lib.hid (HKOd.out.below hb3 HKOd.out.lt)
      have HKS3 := Lib.hid (HKSd.out.below hb3 HKSd.out.lt)
      have HKZ3 := Lib.hid (HKZd.out.below hb3 HKZd.out.lt)
      have HB3 := Lib.hid (bthen HBd.out hb3)
      have HSZ3 := Lib.hid (show W2.heap.size ≤ V3.heap.size from Nat.le_trans HSZd.out hb3.size)
      have x1 := HKO3.out.cell 1
      simp at x1
      rw [← hV3]
      refine hK.out _ _ hs2 (fun hHeld => ?_)
      clear hK K
      (try simp only [Act.put, List.setIfInBounds_toArray, List.set_cons_zero, List.set_cons_succ])
      clear hb3 hV3 hs2 o1
      clear x1
      refine wpAnyH_ready (rs := [8]) (by kernel_rfl) (by simp) ?_
      refine AllReadyH.cons rfl (fun K hK => ?_) AllReadyH.nil
      refine step_append_at rfl _ _ 22 rfl W2.heap.size 9 i0 (.string ⟨#[]⟩) 1 16 Try.underlying22 hi0 hz0 hz1 hz2 rfl (by decide) (.slice A' i c') i (texts (pickL L1 I)) (by first | rfl | (simp; done)) HO3.out ⟨wd.heap.size, 0, none⟩ 1 1 [.string v] (by first | rfl | (simp; done)) rfl HNW.out.at' (by intro u hu; simp at hu; subst hu; rfl) (by unfold maxLen; omega) (by omega) HSZ3.out ?_
      intro v5 w5 ho5 hg5 hd5
      rw [texts_snoc, ← HTN.out] at ho5
      obtain ⟨A7, c7, rfl, hr7, _, _⟩ := own_slice ho5
      have hgS : (Value.slice A' i c').ownBlock ≠ some w.heap.size := own_apart HO3.out (by have := HWS.out; have := HGO.out; omega)
      have hgR : (Value.slice A' i c').ownBlock ≠ some (w.heap.size + 1) := own_apart HO3.out (by have := HWS.out; have := HGO.out; omega)
      have hgZ : (Value.slice A' i c').ownBlock ≠ some (w.heap.size + 1 + 1) := own_apart HO3.out (by have := HWS.out; have := HGO.out; omega)
      have hgo : (Value.slice A' i c').ownBlock ≠ some gO := own_apart HO3.out (by have := HGO.out; omega)
      have hs5 : Blk w5 (w.heap.size + 1) 45 #[.int .i64 t1, .slice (some ⟨bD, oD, none⟩) n1 c1, .int .i64 u1, .slice G1 gn1 gc1] ∧ w5.cell? ⟨bD, oD + k, none⟩ = some (.string v) := ⟨hHeld.1.grown hg5 hgR, hg5.cell hHeld.2 (Ne.symm (own_apart HO3.out (show bD < W2.heap.size by have := lt_of_cell HDw.out; have := HWS.out; have := HGO.out; omega)))⟩
      have HO5 := Lib.hid ho5
      have HKO5 := Lib.hid (HKO3.out.grown hg5 hgo)
      have HKS5 := Lib.hid (HKS3.out.grown hg5 hgS)
      have HKZ5 := Lib.hid (HKZ3.out.grown hg5 hgZ)
      have HB5 := Lib.hid (show Below w.heap.size w w5 from HB3.out.trans (grown_below (own_less HO3.out (by have := HWS.out; have := HGO.out; omega)) hg5 HB3.out.size))
      have HSZ5 := Lib.hid (show W2.heap.size ≤ w5.heap.size from Nat.le_trans HSZ3.out hg5.size)
      refine hK.out _ _ hs5 (fun hHeld => ?_)
      clear hK K
      (try simp only [Act.put, List.setIfInBounds_toArray, List.set_cons_zero, List.set_cons_succ])
      clear ho5 hg5 hd5 hs5 hr7 hgS hgR hgZ hgo HO3 HKO3 HKS3 HKZ3 HB3 HSZ3
      refine take_want (i := 9) (v := ?v9ra) rfl (by kernel_rfl) (by kernel_rfl) (by kernel_rfl) (fun _ _ _ h => h) (by rfl) ?y9ra (by assumption) ?r9ra
      case y9ra => (intro w hSw; go_simp; all_goals with_reducible rfl)
      (try simp only [Act.put, List.setIfInBounds_toArray, List.set_cons_zero, List.set_cons_succ])
      have o1 := HKO5.out.cell 1
      have f1 := HKO5.out.frozen 1
      simp at o1
      refine wpAnyH_ready (rs := [10]) (by kernel_rfl) (by simp) ?_
      refine AllReadyH.cons rfl (fun K hK => ?_) AllReadyH.nil
      go_simp
      have hne : gO ≠ w.heap.size + 1 := by have := HWS.out; omega
      have hs6 : Blk (w5.setCell ⟨gO, 1, none⟩ (.slice A7 (i + 1) c7)) (w.heap.size + 1) 45 #[.int .i64 t1, .slice (some ⟨bD, oD, none⟩) n1 c1, .int .i64 u1, .slice G1 gn1 gc1] ∧ (w5.setCell ⟨gO, 1, none⟩ (.slice A7 (i + 1) c7)).cell? ⟨bD, oD + k, none⟩ = some (.string v) := ⟨hHeld.1.far (by intro e; exact hne e.symm) _, (World.cell?_setCell_other _ _ _ _ (fun e => by have e2 := congrArg Addr.block e; simp at e2; have := lt_of_cell HDw.out; have := HWS.out; omega)).trans hHeld.2⟩
      refine hK.out _ _ hs6 (fun hHeld => ?_)
      clear hK K
      (try simp only [Act.put, List.setIfInBounds_toArray, List.set_cons_zero, List.set_cons_succ])
      refine wpAnyH_done (by kernel_rfl) ?_ _
      have HKO6 := Lib.hid (show Blk (w5.setCell ⟨gO, 1, none⟩ (.slice A7 (i + 1) c7)) gO 45 #[.int .i64 tt, .slice A7 (i + 1) c7, .int .i64 u1, .slice G1 gn1 gc1] from HKO5.out.set_ 1 _)
      have HKS6 := Lib.hid (show Blk (w5.setCell ⟨gO, 1, none⟩ (.slice A7 (i + 1) c7)) w.heap.size 24 #[.slice A n c, .slice B m d] from HKS5.out.far (by show w.heap.size ≠ gO; have := HWS.out; omega) _)
      have HKZ6 := Lib.hid (show Blk (w5.setCell ⟨gO, 1, none⟩ (.slice A7 (i + 1) c7)) (w.heap.size + 1 + 1) 45 #[.int .i64 0, .slice none 0 0, .int .i64 0, .slice none 0 0] from HKZ5.out.far (by show w.heap.size + 1 + 1 ≠ gO; have := HWS.out; omega) _)
      have HKR6 := Lib.hid hHeld.1
      have HO6 := Lib.hid (show (w5.setCell ⟨gO, 1, none⟩ (.slice A7 (i + 1) c7)).ownsRow W2.heap.size 9 1 (.slice A7 (i + 1) c7) (i + 1) (texts (pickL L1 (I ++ [k]))) from own_set' HO5.out (own_apart HO5.out (by have := HGO.out; omega)))
      have HB6 := Lib.hid (show Below w.heap.size w (w5.setCell ⟨gO, 1, none⟩ (.slice A7 (i + 1) c7)) from bset HB5.out (by have := HWS.out; omega) _)
      have HSZ6 := Lib.hid (show W2.heap.size ≤ (w5.setCell ⟨gO, 1, none⟩ (.slice A7 (i + 1) c7)).heap.size by have := HSZ5.out; simpa using this)
      clear o1 f1 hs6 hne hHeld HO5 HKO5 HKS5 HKZ5 HB5 HSZ5
      go_wp2_with fail
      go_roundw
      case rel => exact ⟨i + 1, A7, c7, I ++ [k], by go_num, by omega, Lib.hid (by rw [List.length_append, HIL.out]; rfl), HPN, HO6, HKO6, HKR6, HKS6, HKZ6, HB6, HSZ6⟩
      case measure => simp [intOf]; omega
    · skip
      go_simp
      obtain ⟨V3, hV3⟩ : ∃ V3, V3 = wd.alloc (.cells #[.string v] 9) := ⟨_, rfl⟩
      have hb3 : Below wd.heap.size wd V3 := by rw [hV3]; exact bpush (Below.refl _ _) _
      have HNW := Lib.hid (show Row V3 (some ⟨wd.heap.size, 0, none⟩) [.string v] by rw [hV3]; exact Row.made rfl rfl)
      have hs2 : Blk V3 (w.heap.size + 1) 45 #[.int .i64 t1, .slice (some ⟨bD, oD, none⟩) n1 c1, .int .i64 u1, .slice G1 gn1 gc1] ∧ V3.cell? ⟨bD, oD + k, none⟩ = some (.string v) := ⟨hHeld.1.below hb3 hHeld.1.lt, cell_on hb3 hHeld.2⟩
      have HO3 := Lib.hid (own_below HOd.out hb3)
      have HKO3 := Lib.hid (HKOd.out.below hb3 HKOd.out.lt)
      have HKS3 := Lib.hid (HKSd.out.below hb3 HKSd.out.lt)
      have HKZ3 := Lib.hid (HKZd.out.below hb3 HKZd.out.lt)
      have HB3 := Lib.hid (bthen HBd.out hb3)
      have HSZ3 := Lib.hid (show W2.heap.size ≤ V3.heap.size from Nat.le_trans HSZd.out hb3.size)
      have x1 := HKO3.out.cell 1
      simp at x1
      rw [← hV3]
      refine hK.out _ _ hs2 (fun hHeld => ?_)
      clear hK K
      (try simp only [Act.put, List.setIfInBounds_toArray, List.set_cons_zero, List.set_cons_succ])
      clear hb3 hV3 hs2 o1
      refine wpAnyH_ready (rs := [1]) (by kernel_rfl) (by simp) ?_
      refine AllReadyH.cons rfl (fun K hK => ?_) AllReadyH.nil
      go_simp
      refine hK.out _ _ hHeld (fun hHeld => ?_)
      clear hK K
      (try simp only [Act.put, List.setIfInBounds_toArray, List.set_cons_zero, List.set_cons_succ])
      clear x1
      refine wpAnyH_ready (rs := [8]) (by kernel_rfl) (by simp) ?_
      refine AllReadyH.cons rfl (fun K hK => ?_) AllReadyH.nil
      refine step_append_at rfl _ _ 22 rfl W2.heap.size 9 i0 (.string ⟨#[]⟩) 1 16 Try.underlying22 hi0 hz0 hz1 hz2 rfl (by decide) (.slice A' i c') i (texts (pickL L1 I)) (by first | rfl | (simp; done)) HO3.out ⟨wd.heap.size, 0, none⟩ 1 1 [.string v] (by first | rfl | (simp; done)) rfl HNW.out.at' (by intro u hu; simp at hu; subst hu; rfl) (by unfold maxLen; omega) (by omega) HSZ3.out ?_
      intro v5 w5 ho5 hg5 hd5
      rw [texts_snoc, ← HTN.out] at ho5
      obtain ⟨A7, c7, rfl, hr7, _, _⟩ := own_slice ho5
      have hgS : (Value.slice A' i c').ownBlock ≠ some w.heap.size := own_apart HO3.out (by have := HWS.out; have := HGO.out; omega)
      have hgR : (Value.slice A' i c').ownBlock ≠ some (w.heap.size + 1) := own_apart HO3.out (by have := HWS.out; have := HGO.out; omega)
      have hgZ : (Value.slice A' i c').ownBlock ≠ some (w.heap.size + 1 + 1) := own_apart HO3.out (by have := HWS.out; have := HGO.out; omega)
      have hgo : (Value.slice A' i c').ownBlock ≠ some gO := own_apart HO3.out (by have := HGO.out; omega)
      have hs5 : Blk w5 (w.heap.size + 1) 45 #[.int .i64 t1, .slice (some ⟨bD, oD, none⟩) n1 c1, .int .i64 u1, .slice G1 gn1 gc1] ∧ w5.cell? ⟨bD, oD + k, none⟩ = some (.string v) := ⟨hHeld.1.grown hg5 hgR, hg5.cell hHeld.2 (Ne.symm (own_apart HO3.out (show bD < W2.heap.size by have := lt_of_cell HDw.out; have := HWS.out; have := HGO.out; omega)))⟩
      have HO5 := Lib.hid ho5
      have HKO5 := Lib.hid (HKO3.out.grown hg5 hgo)
      have HKS5 := Lib.hid (HKS3.out.grown hg5 hgS)
      have HKZ5 := Lib.hid (HKZ3.out.grown hg5 hgZ)
      have HB5 := Lib.hid (show Below w.heap.size w w5 from HB3.out.trans (grown_below (own_less HO3.out (by have := HWS.out; have := HGO.out; omega)) hg5 HB3.out.size))
      have HSZ5 := Lib.hid (show W2.heap.size ≤ w5.heap.size from Nat.le_trans HSZ3.out hg5.size)
      refine hK.out _ _ hs5 (fun hHeld => ?_)
      clear hK K
      (try simp only [Act.put, List.setIfInBounds_toArray, List.set_cons_zero, List.set_cons_succ])
      clear ho5 hg5 hd5 hs5 hr7 hgS hgR hgZ hgo HO3 HKO3 HKS3 HKZ3 HB3 HSZ3
      refine take_want (i := 9) (v := ?v9rb) rfl (by kernel_rfl) (by kernel_rfl) (by kernel_rfl) (fun _ _ _ h => h) (by rfl) ?y9rb (by assumption) ?r9rb
      case y9rb => (intro w hSw; go_simp; all_goals with_reducible rfl)
      (try simp only [Act.put, List.setIfInBounds_toArray, List.set_cons_zero, List.set_cons_succ])
      have o1 := HKO5.out.cell 1
      have f1 := HKO5.out.frozen 1
      simp at o1
      refine wpAnyH_ready (rs := [10]) (by kernel_rfl) (by simp) ?_
      refine AllReadyH.cons rfl (fun K hK => ?_) AllReadyH.nil
      go_simp
      have hne : gO ≠ w.heap.size + 1 := by have := HWS.out; omega
      have hs6 : Blk (w5.setCell ⟨gO, 1, none⟩ (.slice A7 (i + 1) c7)) (w.heap.size + 1) 45 #[.int .i64 t1, .slice (some ⟨bD, oD, none⟩) n1 c1, .int .i64 u1, .slice G1 gn1 gc1] ∧ (w5.setCell ⟨gO, 1, none⟩ (.slice A7 (i + 1) c7)).cell? ⟨bD, oD + k, none⟩ = some (.string v) := ⟨hHeld.1.far (by intro e; exact hne e.symm) _, (World.cell?_setCell_other _ _ _ _ (fun e => by have e2 := congrArg Addr.block e; simp at e2; have := lt_of_cell HDw.out; have := HWS.out; omega)).trans hHeld.2⟩
      refine hK.out _ _ hs6 (fun hHeld => ?_)
      clear hK K
      (try simp only [Act.put, List.setIfInBounds_toArray, List.set_cons_zero, List.set_cons_succ])
      refine wpAnyH_done (by kernel_rfl) ?_ _
      have HKO6 := Lib.hid (show Blk (w5.setCell ⟨gO, 1, none⟩ (.slice A7 (i + 1) c7)) gO 45 #[.int .i64 tt, .slice A7 (i + 1) c7, .int .i64 u1, .slice G1 gn1 gc1] from HKO5.out.set_ 1 _)
      have HKS6 := Lib.hid (show Blk (w5.setCell ⟨gO, 1, none⟩ (.slice A7 (i + 1) c7)) w.heap.size 24 #[.slice A n c, .slice B m d] from HKS5.out.far (by show w.heap.size ≠ gO; have := HWS.out; omega) _)
      have HKZ6 := Lib.hid (show Blk (w5.setCell ⟨gO, 1, none⟩ (.slice A7 (i + 1) c7)) (w.heap.size + 1 + 1) 45 #[.int .i64 0, .slice none 0 0, .int .i64 0, .slice none 0 0] from HKZ5.out.far (by show w.heap.size + 1 + 1 ≠ gO; have := HWS.out; omega) _)
      have HKR6 := Lib.hid hHeld.1
      have HO6 := Lib.hid (show (w5.setCell ⟨gO, 1, none⟩ (.slice A7 (i + 1) c7)).ownsRow W2.heap.size 9 1 (.slice A7 (i + 1) c7) (i + 1) (texts (pickL L1 (I ++ [k]))) from own_set' HO5.out (own_apart HO5.out (by have := HGO.out; omega)))
      have HB6 := Lib.hid (show Below w.heap.size w (w5.setCell ⟨gO, 1, none⟩ (.slice A7 (i + 1) c7)) from bset HB5.out (by have := HWS.out; omega) _)
      have HSZ6 := Lib.hid (show W2.heap.size ≤ (w5.setCell ⟨gO, 1, none⟩ (.slice A7 (i + 1) c7)).heap.size by have := HSZ5.out; simpa using this)
      clear o1 f1 hs6 hne hHeld HO5 HKO5 HKS5 HKZ5 HB5 HSZ5
      go_wp2_with fail
      go_roundw
      case rel => exact ⟨i + 1, A7, c7, I ++ [k], by go_num, by omega, Lib.hid (by rw [List.length_append, HIL.out]; rfl), HPN, HO6, HKO6, HKR6, HKS6, HKZ6, HB6, HSZ6⟩
      case measure => simp [intOf]; omega
end Go.Proofs.Ytkfcpmmiimpkbaa
namespace Go.Proofs.Ytkfcpmmiimpkbaa
open Go.RowKit Go.Shelf
set_option linter.unusedSimpArgs false
set_option linter.unusedVariables false
theorem plc_exists (L : List ByteArray) : ∀ M : List ByteArray, (∀ s ∈ M, s ∈ L) → ∃ I : List Nat, I.length = M.length ∧ PlcIs L M I := by
  intro M
  induction M with
  | nil => intro _; exact ⟨[], rfl, Nat.le_refl _, fun j h => by simp at h⟩
  | cons s M ih =>
    intro h
    obtain ⟨I, hl, hI⟩ := ih fun t ht => h t (List.mem_cons_of_mem _ ht)
    obtain ⟨k, hk, e⟩ := List.getElem_of_mem (h s (List.mem_cons_self ..))
    refine ⟨k :: I, by simp [hl], by simp [hl], fun j hj hm => ?_⟩
    cases j with
    | zero => exact ⟨hk, by simpa using e⟩
    | succ j =>
      have := hI.2 j (by simpa using hj) (by simpa using hm)
      simpa using this
theorem plc_uniq {L M : List ByteArray} {I J : List Nat} (hd : ∀ (i j : Nat) (hij : i < j) (hj : j < L.length), L[i] ≠ L[j]) (hI : PlcIs L M I) (hJ : PlcIs L M J) (h1 : I.length = M.length) (h2 : J.length = M.length) : I = J := by
  refine List.ext_getElem (by omega) fun j hj hj' => ?_
  obtain ⟨a, ea⟩ := hI.2 j hj (by omega)
  obtain ⟨b, eb⟩ := hJ.2 j hj' (by omega)
  rcases Nat.lt_trichotomy I[j] J[j] with h | h | h
  · exact absurd (ea.trans eb.symm) (hd _ _ h b)
  · exact h
  · exact absurd (eb.trans ea.symm) (hd _ _ h a)
def RProjPost (w : World) (g : Int) (L M : List ByteArray) (Z : List RZ) (e : Ending) (w' : World) : Prop :=
  (¬ subsetP M L ∧ e = .returned (.tuple #[.slice none 0 0, .int .i64 141]) ∧ Below w.heap.size w w') ∨
  (subsetP M L ∧ ¬ okGran g ∧ e = .returned (.tuple #[.slice none 0 0, .int .i64 111]) ∧ Below w.heap.size w w') ∨
  (subsetP M L ∧ okGran g ∧ ∃ I, PlcIs L M I ∧ I.length = M.length ∧ ∃ A c Y x, e = .returned (.tuple #[.slice A Y.length c, .int .i64 x]) ∧ refF [] (Z.map fun z => projR g I z.2) = (Y.map Prod.snd, x) ∧ RowsC w' A Y ∧ Below w.heap.size w w')
set_option maxRecDepth 100000 in
set_option maxHeartbeats 16000000 in
theorem refproject_any (A B C E : Option Addr) (n c m d k cap p pc q : Nat) (g : Int) (L M : List ByteArray) (Z : List RZ) (w : World) (hA : Row w A (texts L)) (hn : n = L.length) (hn2 : n ≤ 1000000) (hC : RowsC w C Z) (hk : k = Z.length) (hk2 : k ≤ 1000000)
    (hE : Row w E (texts M)) (hp : p = M.length) (hp2 : p ≤ 1000000) (hL : namesP L) (hZ : ∀ z ∈ Z, RowQ q L.length z.2 ∧ 0 ≤ z.2.t ∧ z.2.t ≤ 1099511627776) :
    Calls Try.prog 10 #[.agg #[.slice A n c, .slice B m d], .slice C k cap, .slice E p pc, .int .i64 g] w (RProjPost w g L M Z) := by
  obtain ⟨W1, hW1⟩ : ∃ W1, W1 = w.alloc (.cells #[.slice A n c, .slice B m d] 24) := ⟨_, rfl⟩
  have hb1 : Below w.heap.size w W1 := by rw [hW1]; exact bpush (Below.refl _ _) _
  have HB1 := Lib.hid hb1
  have HS01 := Lib.hid (show W1.cell? ⟨w.heap.size, 0, none⟩ = some (.slice A n c) ∧ W1.cell? ⟨w.heap.size, 1, none⟩ = some (.slice B m d) by rw [hW1]; exact ⟨cell_made rfl rfl, cell_made rfl rfl⟩)
  have HA := Lib.hid (hA.keep (Nat.le_refl _) hb1)
  have HC := Lib.hid (hC.keep hb1)
  have HE := Lib.hid (hE.keep (Nat.le_refl _) hb1)
  obtain ⟨r, hr⟩ := bool_of (M.Sublist L)
  have HR := Lib.hid (show r = true ↔ subsetP M L by rw [hr, sub_list hL])
  have HSB := Lib.hid (refsubset_any E A p pc n c M L W1 HE.out HA.out hp hn (by omega) (by omega) hL.2 r hr)
  have HN := Lib.hid hn
  have HK := Lib.hid hk
  have HP := Lib.hid hp
  have HZ := Lib.hid hZ
  have HL := Lib.hid hL
  have HW1 := Lib.hid hW1
  obtain ⟨i0, hi0, hz0, hz1, hz2⟩ := info_parts info27
  clear hA hC hE hn hk hp hL hZ hr hW1 hb1
  go_enter Try.func10, Try.ntmps10
  go_upto_region 1 with fail
  rw [← HW1.out]
  obtain ⟨s0, s1⟩ := HS01.out
  cases r with
  | false =>
    go_wp2_with (go_at_call 28; refine HSB.out.mono ?_; rintro e w1 ⟨rfl, rfl⟩)
    exact bodyPost_ret (v := .tuple #[.slice none 0 0, .int .i64 141]) (by simp [results, Try.results10, go_sem]) rfl (Or.inl ⟨(fun h => by have := HR.out.2 h; cases this), rfl, HB1.out⟩)
  | true =>
  have HSUB := Lib.hid (HR.out.1 rfl)
  by_cases hg : okGran g
  case neg =>
    have HG := Lib.hid hg
    clear hg
    go_wp2_with (first
      | (go_at_call 28; refine HSB.out.mono ?_; rintro e w1 ⟨rfl, rfl⟩)
      | (go_at_call 29; refine (rright_no _ _ HG.out).mono ?_; rintro e w1 ⟨rfl, rfl⟩))
    exact bodyPost_ret (v := .tuple #[.slice none 0 0, .int .i64 111]) (by simp [results, Try.results10, go_sem]) rfl (Or.inr (Or.inl ⟨HSUB.out, HG.out, rfl, HB1.out⟩))
  case pos =>
  have HG := Lib.hid hg
  clear hg
  obtain ⟨I, hIl, hI⟩ := plc_exists L M (names_in HSUB.out)
  have HI := Lib.hid hI
  have HIL := Lib.hid hIl
  clear hI hIl
  go_upto_region 7 with (first
    | (go_at_call 28; refine HSB.out.mono ?_; rintro e w1 ⟨rfl, rfl⟩)
    | (go_at_call 29; refine (rright_yes _ _ HG.out).mono ?_; rintro e w1 ⟨rfl, rfl⟩))
  clear s0 s1 HSB
  go_wp2_with fail
  go_loopw [12, 13] (fun v12 v13 wr => ∃ (j : Nat) (A' : Option Addr) (c' : Nat) (O : List RZ), v12 = .slice A' j c' ∧ v13 = .int .i64 j ∧ j ≤ k ∧ Hid (wr.ownsRow W1.heap.size 45 4 (.slice A' j c') j (cellsR O)) ∧ Hid (∀ y ∈ O, Pj W1 wr y) ∧ Hid (O.map Prod.snd = (Z.take j).map fun z => projR g I z.2) ∧ Hid (Below W1.heap.size W1 wr)) (fun _ v13 _ => k - (intOf v13).toNat)
  case atStart => exact ⟨0, none, 0, [], rfl, rfl, Nat.zero_le _, Lib.hid (World.ownsRow_nil _ _ _ _), Lib.hid (fun y hy => by cases hy), Lib.hid rfl, Lib.hid (Below.refl _ _)⟩
  case round =>
    obtain ⟨j, A', c', O, rfl, rfl, hjk, HO, HGO, HM, HB⟩ := hrel
    by_cases hlt : j < k
    case neg =>
      obtain rfl : j = k := by omega
      have hjz : ¬ ((j : Int) < (j : Int)) := by omega
      obtain ⟨hq, A5, c5, e5, hr5, hq1, hq2, hq3⟩ := own_sliceR HO.out
      cases e5
      have hmm : O.map Prod.snd = Z.map fun z => projR g I z.2 := by rw [HM.out, List.take_of_length_le (by rw [HK.out]; exact Nat.le_refl _)]
      have HMM := Lib.hid hmm
      have hct : ∀ z ∈ O, RowQ q M.length z.2 := fun z hz => by
        have h1 : z.2 ∈ O.map Prod.snd := List.mem_map.2 ⟨z, hz, rfl⟩
        rw [hmm] at h1
        obtain ⟨y, hy, e⟩ := List.mem_map.1 h1
        obtain ⟨h2, _⟩ := HZ.out y hy
        rw [← e]
        refine ⟨⟨h2.ok.lo, h2.ok.hi, h2.ok.len, h2.ok.aggs⟩, ?_⟩
        show (pickL y.2.dims I).length = _
        rw [pickL_len _ _ (fun i hi => by
          obtain ⟨a, ha, rfl⟩ := List.getElem_of_mem hi
          obtain ⟨h3, _⟩ := HI.out.2 a ha (by rw [← HIL.out]; exact ha)
          rw [h2.dims]; exact h3), HIL.out]
      have HFO := Lib.hid (reffold_any A' j c' q M.length O wr ⟨hr5, fun y hy => (HGO.out y hy).good HB.out⟩ hq hk2 hct)
      clear hlt hq hr5 hq1 hq2 hq3 hmm hct HGO
      go_wp2_with (go_at_call 18; refine HFO.out.mono ?_; rintro e w6 ⟨A6, Y6, c6, x6, rfl, hf6, hr6, hc6, hb6⟩; have HF6 := Lib.hid hf6; have HR6 := Lib.hid hr6; have HB6 := Lib.hid hb6; clear hf6 hr6 hc6 hb6)
      refine bodyPost_ret (v := .tuple #[.slice A6 Y6.length c6, .int .i64 x6]) (by simp [results, Try.results10, go_sem]) rfl (Or.inr (Or.inr ⟨HSUB.out, HG.out, I, HI.out, HIL.out, A6, c6, Y6, x6, rfl, ?_, HR6.out, ?_⟩))
      · have := HF6.out
        rw [HMM.out] at this
        exact this
      · exact bthen HB1.out (bthen HB.out HB6.out)
    case pos =>
    have hjz : (j : Int) < (k : Int) := by omega
    have hj0 : (0 : Int) ≤ (j : Int) := by omega
    have hjZ : j < Z.length := by have := HK.out; omega
    obtain ⟨x, hx⟩ : ∃ x, x = Z[j] := ⟨_, rfl⟩
    obtain ⟨bA, oA, hAe, x0, x1, x2, x3⟩ := row4 HC.out.row hjZ
    subst hAe
    rw [← hx] at x0 x1 x2 x3
    have hxz := HZ.out _ (List.getElem_mem hjZ)
    rw [← hx] at hxz
    have HX0 := Lib.hid (show Good W1 x by rw [hx]; exact HC.out.good _ (List.getElem_mem hjZ))
    have HTK := Lib.hid (show (Z.take (j + 1)).map (fun z => projR g I z.2) = (Z.take j).map (fun z => projR g I z.2) ++ [projR g I x.2] by rw [List.take_succ_eq_append_getElem hjZ, List.map_append, ← hx]; rfl)
    have HCR := Lib.hid (show ∀ W, Below W1.heap.size W1 W → Calls Try.prog 30 #[.agg #[.slice A n c, .slice B m d], .agg #[.int .i64 x.2.t, .slice x.1.D x.1.n x.1.c, .int .i64 x.2.count, .slice x.1.G x.1.gn x.1.gc], .slice E p pc, .int .i64 g] W (CRowPost W g L M x p) from fun W hW => crow_any A B E n c m d p pc g L M x W (HA.out.keep (Nat.le_refl _) hW) HN.out hn2 (HE.out.keep (Nat.le_refl _) hW) HP.out hp2 (names_in HSUB.out) (HX0.out.keep hW) hxz.1.dims ⟨HG.out, by have := hxz.2.1; omega, by have := hxz.2.2; omega⟩)
    clear hx
    obtain ⟨⟨D1, n1, c1, G1, gn1, gc1⟩, ⟨t1, L1, u1, X1⟩⟩ := x
    simp only at x0 x1 x2 x3 HTK hxz
    clear hxz
    have HXC := Lib.hid (And.intro x0 (And.intro x1 (And.intro x2 x3)))
    clear x0 x1 x2 x3
    go_upto_region 11 with fail
    obtain ⟨wd, hwd⟩ : ∃ wd, wd = wr.drew := ⟨_, rfl⟩
    have hbd : Below wr.heap.size wr wd := by rw [hwd]; exact below_drewN (Below.refl _ _) 1
    have HOd := Lib.hid (own_below HO.out hbd)
    have HGd := Lib.hid (show ∀ y ∈ O, Pj W1 wd y from fun y hy => (HGO.out y hy).keep hbd)
    have hs0 : (fun w' => Below W1.heap.size W1 w') wd := bthen HB.out hbd
    rw [hwd] at hs0
    refine wp_region_held_drew (S := fun w' => Below W1.heap.size W1 w') (by kernel_rfl) hs0 ?_
    intro hHeld
    rw [← hwd] at hHeld ⊢
    clear hwd hbd hs0 HO HGO HB hlt
    refine take_want (i := 0) (v := ?v0m) rfl (by kernel_rfl) (by kernel_rfl) (by kernel_rfl) (fun _ _ _ h => h) (by rfl) ?y0m (by assumption) ?r0m
    case y0m => (intro w hSw; go_simp; all_goals with_reducible rfl)
    (try simp only [Act.put, List.setIfInBounds_toArray, List.set_cons_zero, List.set_cons_succ])
    refine take_want (i := 1) (v := ?v1m) rfl (by kernel_rfl) (by kernel_rfl) (by kernel_rfl) (fun _ _ _ h => h) (by rfl) ?y1m (by assumption) ?r1m
    case y1m => (intro w hSw; obtain ⟨s0, s1⟩ := HS01.out; have s0 := cell_on hSw s0; have s1 := cell_on hSw s1; go_simp; all_goals with_reducible rfl)
    (try simp only [Act.put, List.setIfInBounds_toArray, List.set_cons_zero, List.set_cons_succ])
    refine take_want (i := 2) (v := ?v2m) rfl (by kernel_rfl) (by kernel_rfl) (by kernel_rfl) (fun _ _ _ h => h) (by rfl) ?y2m (by assumption) ?r2m
    case y2m => (intro w hSw; go_simp; all_goals with_reducible rfl)
    (try simp only [Act.put, List.setIfInBounds_toArray, List.set_cons_zero, List.set_cons_succ])
    refine take_want (i := 3) (v := ?v3m) rfl (by kernel_rfl) (by kernel_rfl) (by kernel_rfl) (fun _ _ _ h => h) (by rfl) ?y3m (by assumption) ?r3m
    case y3m => (intro w hSw; go_simp; all_goals with_reducible rfl)
    (try simp only [Act.put, List.setIfInBounds_toArray, List.set_cons_zero, List.set_cons_succ])
    refine take_want (i := 4) (v := ?v4m) rfl (by kernel_rfl) (by kernel_rfl) (by kernel_rfl) (fun _ _ _ h => h) (by rfl) ?y4m (by assumption) ?r4m
    case y4m => (intro w hSw; go_simp; all_goals with_reducible rfl)
    (try simp only [Act.put, List.setIfInBounds_toArray, List.set_cons_zero, List.set_cons_succ])
    refine take_want (i := 5) (v := ?v5m) rfl (by kernel_rfl) (by kernel_rfl) (by kernel_rfl) (fun _ _ _ h => h) (by rfl) ?y5m (by assumption) ?r5m
    case y5m => (intro w hSw; obtain ⟨x0, x1, x2, x3⟩ := HXC.out; have x0 := cell_on hSw x0; have x1 := cell_on hSw x1; have x2 := cell_on hSw x2; have x3 := cell_on hSw x3; go_simp; all_goals with_reducible rfl)
    (try simp only [Act.put, List.setIfInBounds_toArray, List.set_cons_zero, List.set_cons_succ])
    refine take_want (i := 6) (v := ?v6m) rfl (by kernel_rfl) (by kernel_rfl) (by kernel_rfl) (fun _ _ _ h => h) (by rfl) ?y6m (by assumption) ?r6m
    case y6m => (intro w hSw; go_simp; all_goals with_reducible rfl)
    (try simp only [Act.put, List.setIfInBounds_toArray, List.set_cons_zero, List.set_cons_succ])
    refine take_want (i := 7) (v := ?v7m) rfl (by kernel_rfl) (by kernel_rfl) (by kernel_rfl) (fun _ _ _ h => h) (by rfl) ?y7m (by assumption) ?r7m
    case y7m => (intro w hSw; go_simp; all_goals with_reducible rfl)
    (try simp only [Act.put, List.setIfInBounds_toArray, List.set_cons_zero, List.set_cons_succ])
    refine wpAnyH_ready (rs := [8]) (by kernel_rfl) (by simp) ?_
    refine AllReadyH.cons rfl (fun K hK => ?_) AllReadyH.nil
    go_simp
    (go_at_call 30; refine (HCR.out _ hHeld).mono ?_; rintro e V2 ⟨J, A5, c5, rfl, hJ, hJl, ho, hb⟩)
    have hJI : J = I := plc_uniq (fun a b hab hb => HL.out.2 a b hab hb) hJ HI.out (by rw [hJl, HP.out]) HIL.out
    subst hJI
    have HJL := Lib.hid hJl
    have hs2 : Below W1.heap.size W1 V2 := bthen hHeld hb
    have HO2 := Lib.hid (own_below HOd.out hb)
    have HG2 := Lib.hid (show ∀ y ∈ O, Pj W1 V2 y from fun y hy => (HGd.out y hy).keep hb)
    have HD2 := Lib.hid (own_less ho hHeld.size)
    refine hK.out _ _ hs2 (fun hHeld => ?_)
    clear hK K
    (try simp only [Act.put, List.setIfInBounds_toArray, List.set_cons_zero, List.set_cons_succ])
    clear hb ho hs2 hJ hJl HOd HGd
    obtain ⟨tt, htt⟩ : ∃ tt, tt = flr t1 g := ⟨_, rfl⟩
    have HTT := Lib.hid htt
    simp only [← htt]
    clear htt
    refine wpAnyH_ready (rs := [9]) (by kernel_rfl) (by simp) ?_
    refine AllReadyH.cons rfl (fun K hK => ?_) AllReadyH.nil
    go_simp
    obtain ⟨V3, hV3⟩ : ∃ V3, V3 = V2.alloc (.cells #[.int .i64 tt, .slice A5 p c5, .int .i64 u1, .slice G1 gn1 gc1] 45) := ⟨_, rfl⟩
    have hb3 : Below V2.heap.size V2 V3 := by rw [hV3]; exact bpush (Below.refl _ _) _
    have HNW := Lib.hid (show Row V3 (some ⟨V2.heap.size, 0, none⟩) [.int .i64 tt, .slice A5 p c5, .int .i64 u1, .slice G1 gn1 gc1] by rw [hV3]; exact Row.made rfl rfl)
    have hs2 : Below W1.heap.size W1 V3 := bthen hHeld hb3
    have HO3 := Lib.hid (own_below HO2.out hb3)
    have HG3 := Lib.hid (show ∀ y ∈ O, Pj W1 V3 y from fun y hy => (HG2.out y hy).keep hb3)
    have HD3 := Lib.hid (own_below HD2.out hb3)
    rw [← hV3]
    refine hK.out _ _ hs2 (fun hHeld => ?_)
    clear hK K
    (try simp only [Act.put, List.setIfInBounds_toArray, List.set_cons_zero, List.set_cons_succ])
    clear hb3 hV3 hs2 HO2 HG2 HD2
    refine wpAnyH_ready (rs := [10]) (by kernel_rfl) (by simp) ?_
    refine AllReadyH.cons rfl (fun K hK => ?_) AllReadyH.nil
    refine step_append_at rfl _ _ 25 rfl W1.heap.size 45 i0 (.agg #[.int .i64 0, .slice none 0 0, .int .i64 0, .slice none 0 0]) 4 64 Try.underlying25 hi0 hz0 hz1 hz2 rfl (by decide) (.slice A' j c') j (cellsR O) (by first | rfl | (simp; done)) HO3.out ⟨V2.heap.size, 0, none⟩ 1 1 [.int .i64 tt, .slice A5 p c5, .int .i64 u1, .slice G1 gn1 gc1] (by first | rfl | (simp; done)) rfl HNW.out.at' (by intro u hu; simp at hu; rcases hu with rfl | rfl | rfl | rfl <;> rfl) (by unfold maxLen; omega) (by omega) hHeld.size ?_
    intro v5 w5 ho5 hg5 hd5
    have ho6 : w5.ownsRow W1.heap.size 45 4 v5 (j + 1) (cellsR (O ++ [(⟨A5, p, c5, G1, gn1, gc1⟩, ⟨tt, pickL L1 J, u1, X1⟩)])) := by rw [cellsR_app]; exact ho5
    obtain ⟨A7, c7, rfl⟩ := own_is ho6
    have hs5 : Below W1.heap.size W1 w5 := hHeld.trans (grown_below4 HO3.out hg5 hHeld.size)
    have HO5 := Lib.hid ho6
    have HG5 := Lib.hid hg5
    refine hK.out _ _ hs5 (fun hHeld => ?_)
    clear hK K
    (try simp only [Act.put, List.setIfInBounds_toArray, List.set_cons_zero, List.set_cons_succ])
    clear ho5 ho6 hg5 hd5 hs5
    refine take_want (i := 11) (v := ?v11m) rfl (by kernel_rfl) (by kernel_rfl) (by kernel_rfl) (fun _ _ _ h => h) (by rfl) ?y11m (by assumption) ?r11m
    case y11m => (intro w hSw; go_simp; all_goals with_reducible rfl)
    (try simp only [Act.put, List.setIfInBounds_toArray, List.set_cons_zero, List.set_cons_succ])
    refine wpAnyH_done (by kernel_rfl) ?_ _
    have HPN := Lib.hid (show ∀ y ∈ O ++ [((⟨A5, p, c5, G1, gn1, gc1⟩, ⟨tt, pickL L1 J, u1, X1⟩) : RZ)], Pj W1 w5 y from fun y hy => by
      rcases List.mem_append.1 hy with hy | hy
      · exact (HG3.out y hy).app HO3.out HG5.out
      · rw [List.mem_singleton.1 hy]
        exact ⟨HD3.out.kept HG5.out (own_not_own HD3.out HO3.out (by decide)), by show p * 16 ≤ _; omega, HX0.out.rg, HX0.out.ng, HX0.out.cg, HX0.out.ag, HX0.out.sg⟩)
    have HMN := Lib.hid (show (O ++ [((⟨A5, p, c5, G1, gn1, gc1⟩, ⟨tt, pickL L1 J, u1, X1⟩) : RZ)]).map Prod.snd = (Z.take (j + 1)).map (fun z => projR g J z.2) by
      rw [List.map_append, HM.out, HTK.out]
      unfold projR
      rw [← HTT.out]; rfl)
    have HBN := Lib.hid hHeld
    clear hHeld
    go_wp2_with fail
    go_roundw
    case rel => exact ⟨j + 1, A7, c7, _, rfl, by go_num, by omega, HO5, HPN, HMN, HBN⟩
    case measure => simp [intOf]; omega
end Go.Proofs.Ytkfcpmmiimpkbaa
namespace Go.Proofs.Ytkfcpmmiimpkbaa
open Go.RowKit Go.Shelf
set_option linter.unusedSimpArgs false
set_option linter.unusedVariables false
/-- What a projection tells: its rows, and the error. -/
def OutJ (g : Int) (L M : List ByteArray) (K O : List RV) (x : Int) : Prop :=
  (¬ subsetP M L ∧ O = [] ∧ x = 141) ∨ (subsetP M L ∧ ¬ okGran g ∧ O = [] ∧ x = 111) ∨ (subsetP M L ∧ okGran g ∧ ∃ I, PlcIs L M I ∧ I.length = M.length ∧ refF [] (K.map (projR g I)) = (O, x))
theorem OutJ.uniq {g : Int} {L M : List ByteArray} {K O O' : List RV} {x x' : Int} (hL : namesP L) (h : OutJ g L M K O x) (h' : OutJ g L M K O' x') : O = O' ∧ x = x' := by
  rcases h with ⟨a, b, c⟩ | ⟨a, a', b, c⟩ | ⟨a, a', I, hI, hl, hf⟩ <;> rcases h' with ⟨d, e, f⟩ | ⟨d, d', e, f⟩ | ⟨d, d', J, hJ, hl', hf'⟩
  · exact ⟨b.trans e.symm, c.trans f.symm⟩
  · exact absurd d a
  · exact absurd d a
  · exact absurd a d
  · exact ⟨b.trans e.symm, c.trans f.symm⟩
  · exact absurd d' a'
  · exact absurd a d
  · exact absurd a' d'
  · obtain rfl := plc_uniq (fun a b hab hb => hL.2 a b hab hb) hI hJ hl hl'
    rw [hf] at hf'
    exact ⟨congrArg Prod.fst hf', congrArg Prod.snd hf'⟩
theorem rows_none {w : World} : RowsC w none [] := ⟨.inl rfl, fun y hy => by cases hy⟩
theorem proj_to {q : Nat} {w w' : World} {g : Int} {L M : List ByteArray} {Z : List RZ} {e : Ending} (h : ProjPost w g L M Z e w') (hq : ∀ z ∈ Z, OkR q z.2) : ∃ A n c Y x, e = .returned (.tuple #[.slice A n c, .int .i64 x]) ∧ n = Y.length ∧ n ≤ 9223372036854775807 ∧ RowsC w' A Y ∧ OutJ g L M (Z.map Prod.snd) (Y.map Prod.snd) x ∧ Below w.heap.size w w' := by
  rcases h with ⟨hs, rfl, hb⟩ | ⟨hs, hg, rfl, hb⟩ | ⟨hs, hg, I, hI, hl, A, n, c, Y, x, K', rfl, hn, ht, hf, hC, hnc, h9, hb⟩
  · exact ⟨none, 0, 0, [], 141, rfl, rfl, Nat.zero_le _, rows_none, .inl ⟨hs, rfl, rfl⟩, hb⟩
  · exact ⟨none, 0, 0, [], 111, rfl, rfl, Nat.zero_le _, rows_none, .inr (.inl ⟨hs, hg, rfl, rfl⟩), hb⟩
  · refine ⟨A, n, c, Y, x, rfl, hn, h9, hC, .inr (.inr ⟨hs, hg, I, hI, hl, ?_⟩), hb⟩
    rw [List.map_map]
    rw [← hf]
    refine (fold_one (q := q) ht fun a ha => ?_).symm
    obtain ⟨z, hz, rfl⟩ := List.mem_map.1 ha
    have := hq z hz
    exact ⟨this.lo, this.hi, this.len, this.aggs⟩
theorem refF_len {q : Nat} {K : List RV} {O : List RV} {x : Int} (h : refF [] K = (O, x)) (hK : ∀ a ∈ K, OkR q a) : True := trivial
theorem rproj_to {w w' : World} {g : Int} {L M : List ByteArray} {Z : List RZ} {e : Ending} (h : RProjPost w g L M Z e w') : ∃ A c Y x, e = .returned (.tuple #[.slice A Y.length c, .int .i64 x]) ∧ RowsC w' A Y ∧ OutJ g L M (Z.map Prod.snd) (Y.map Prod.snd) x ∧ Below w.heap.size w w' := by
  rcases h with ⟨hs, rfl, hb⟩ | ⟨hs, hg, rfl, hb⟩ | ⟨hs, hg, I, hI, hl, A, c, Y, x, rfl, hf, hC, hb⟩
  · exact ⟨none, 0, [], 141, rfl, rows_none, .inl ⟨hs, rfl, rfl⟩, hb⟩
  · exact ⟨none, 0, [], 111, rfl, rows_none, .inr (.inl ⟨hs, hg, rfl, rfl⟩), hb⟩
  · exact ⟨A, c, Y, x, rfl, hC, .inr (.inr ⟨hs, hg, I, hI, hl, by rw [List.map_map]; exact hf⟩), hb⟩
/-- What Schema tells. -/
def OutS (L M N P Q : List ByteArray) (x : Int) : Prop := (¬ subsetP M L ∧ P = [] ∧ Q = [] ∧ x = 141) ∨ (subsetP M L ∧ P = M ∧ Q = N ∧ x = 0)
theorem OutS.uniq {L M N P Q P' Q' : List ByteArray} {x x' : Int} (h : OutS L M N P Q x) (h' : OutS L M N P' Q' x') : P = P' ∧ Q = Q' ∧ x = x' := by
  rcases h with ⟨a, rfl, rfl, rfl⟩ | ⟨a, rfl, rfl, rfl⟩ <;> rcases h' with ⟨b, rfl, rfl, rfl⟩ | ⟨b, rfl, rfl, rfl⟩
  · exact ⟨rfl, rfl, rfl⟩
  · exact absurd b a
  · exact absurd a b
  · exact ⟨rfl, rfl, rfl⟩
theorem schema_to {w w' : World} {L M N : List ByteArray} {e : Ending} (h : SchemaPost w L M N e w') : ∃ A n c B m d P Q x, e = .returned (.tuple #[.agg #[.slice A n c, .slice B m d], .int .i64 x]) ∧ n = P.length ∧ m = Q.length ∧ Row w' A (texts P) ∧ Row w' B (texts Q) ∧ OutS L M N P Q x ∧ Below w.heap.size w w' := by
  rcases h with ⟨⟨hs, rfl⟩ | ⟨hs, D1, k1, D2, k2, rfl, h1, h2⟩, hb⟩
  · exact ⟨none, 0, 0, none, 0, 0, [], [], 141, rfl, rfl, rfl, .inl rfl, .inl rfl, .inl ⟨hs, rfl, rfl, rfl⟩, hb⟩
  · exact ⟨D1, _, k1, D2, _, k2, M, N, 0, rfl, rfl, rfl, h1, h2, .inr ⟨hs, rfl, rfl, rfl⟩, hb⟩
theorem rschema_to {w w' : World} {A B E : Option Addr} {m d p pc : Nat} {L M N : List ByteArray} {e : Ending} (h : ((¬ subsetP M L ∧ e = .returned (.tuple #[.agg #[.slice none 0 0, .slice none 0 0], .int .i64 141])) ∨ (subsetP M L ∧ e = .returned (.tuple #[.agg #[.slice E p pc, .slice B m d], .int .i64 0]))) ∧ Below w.heap.size w w') (hE : Row w E (texts M)) (hB : Row w B (texts N)) (hp : p = M.length) (hm : m = N.length) : ∃ A n c B m d P Q x, e = .returned (.tuple #[.agg #[.slice A n c, .slice B m d], .int .i64 x]) ∧ n = P.length ∧ m = Q.length ∧ Row w' A (texts P) ∧ Row w' B (texts Q) ∧ OutS L M N P Q x ∧ Below w.heap.size w w' := by
  rcases h with ⟨⟨hs, rfl⟩ | ⟨hs, rfl⟩, hb⟩
  · exact ⟨none, 0, 0, none, 0, 0, [], [], 141, rfl, rfl, rfl, .inl rfl, .inl rfl, .inl ⟨hs, rfl, rfl, rfl⟩, hb⟩
  · exact ⟨E, p, pc, B, m, d, M, N, 0, rfl, hp, hm, hE.keep (Nat.le_refl _) hb, hB.keep (Nat.le_refl _) hb, .inr ⟨hs, rfl, rfl, rfl⟩, hb⟩
theorem outS_len {L M N P Q : List ByteArray} {x : Int} (h : OutS L M N P Q x) : P.length ≤ M.length ∧ Q.length ≤ N.length := by
  rcases h with ⟨a, rfl, rfl, rfl⟩ | ⟨a, rfl, rfl, rfl⟩ <;> simp
theorem stay_sum (x : Int) : ∀ Z : List RZ, (stay (fun t => decide (t < x)) Z).length + (stay (fun t => decide (x ≤ t)) Z).length = Z.length := by
  intro Z
  induction Z with
  | nil => rfl
  | cons z Z ih =>
    unfold stay at ih ⊢
    by_cases h : z.2.t < x
    · have h2 : ¬ x ≤ z.2.t := by omega
      simp [List.filter_cons, h, h2]; simp at ih; omega
    · have h2 : x ≤ z.2.t := by omega
      simp [List.filter_cons, h, h2]; simp at ih; omega
set_option maxRecDepth 100000 in
set_option maxHeartbeats 16000000 in
theorem tells_walk (A B C E : Option Addr) (n c m d k cap p pc : Nat) (g f u : Int) (L M T : List ByteArray) (Z : List RZ) (w : World) (hA : Row w A (texts L)) (hB : Row w B (texts M)) (hC : Row w C (cellsR Z)) (hE : Row w E (texts T)) (hgd : ∀ z ∈ Z, Good0 w z) (hn : n = L.length) (hm : m = M.length) (hk : k = Z.length) (hp : p = T.length) (hnc : n ≤ c) (hmd : m ≤ d) (hpc : p ≤ pc) (ha : A = none → c = 0) (hb : B = none → d = 0) (he : E = none → pc = 0)
    (hL : ∀ s ∈ L, s.size ≤ 9223372036854775807) (hM : ∀ s ∈ M, s.size ≤ 9223372036854775807) (hT : ∀ s ∈ T, s.size ≤ 9223372036854775807) (hc2 : c ≤ 9223372036854775807) (hn2 : n ≤ 9223372036854775807) (hm2 : m ≤ 9223372036854775807) (hp2 : p ≤ 9223372036854775807) (hk2 : k ≤ 9223372036854775807) (hsz : ∀ z ∈ Z, ∀ s ∈ z.2.dims, s.size ≤ 9223372036854775807) :
    Calls Try.prog 3 #[.agg #[.slice A n c, .slice B m d], .slice C k cap, .agg #[.slice E p pc, .int .i64 g, .int .i64 f, .int .i64 u]] w fun e w' => e = .returned (.bool true) ∧ Below w.heap.size w w' := by
  obtain ⟨W1, hW1⟩ : ∃ W1, W1 = (w.alloc (.cells #[.slice A n c, .slice B m d] 24)).alloc (.cells #[.slice E p pc, .int .i64 g, .int .i64 f, .int .i64 u] 27) := ⟨_, rfl⟩
  have hb0 : Below w.heap.size w (w.alloc (.cells #[.slice A n c, .slice B m d] 24)) := bpush (Below.refl _ _) _
  have hb1 : Below w.heap.size w W1 := by rw [hW1]; exact bpush hb0 _
  have HB1 := Lib.hid hb1
  have hbb : Below (w.alloc (.cells #[.slice A n c, .slice B m d] 24)).heap.size (w.alloc (.cells #[.slice A n c, .slice B m d] 24)) W1 := by rw [hW1]; exact bpush (Below.refl _ _) _
  have s0 : W1.cell? ⟨w.heap.size, 0, none⟩ = some (.slice A n c) := cell_on hbb (cell_made rfl rfl)
  have s1 : W1.cell? ⟨w.heap.size, 1, none⟩ = some (.slice B m d) := cell_on hbb (cell_made rfl rfl)
  have r0 : W1.cell? ⟨w.heap.size + 1, 0, none⟩ = some (.slice E p pc) := by rw [hW1]; exact cell_made (by simp) rfl
  have r1 : W1.cell? ⟨w.heap.size + 1, 1, none⟩ = some (.int .i64 g) := by rw [hW1]; exact cell_made (by simp) rfl
  have r2 : W1.cell? ⟨w.heap.size + 1, 2, none⟩ = some (.int .i64 f) := by rw [hW1]; exact cell_made (by simp) rfl
  have r3 : W1.cell? ⟨w.heap.size + 1, 3, none⟩ = some (.int .i64 u) := by rw [hW1]; exact cell_made (by simp) rfl
  have HS01 := Lib.hid (And.intro s0 (And.intro s1 (And.intro r0 (And.intro r1 (And.intro r2 r3)))))
  have HB := Lib.hid (hB.keep (Nat.le_refl _) hb1)
  have HM := Lib.hid hm
  have HMD := Lib.hid hmd
  have HBN := Lib.hid hb
  have HAN := Lib.hid he
  obtain ⟨r, hr⟩ := bool_of (fitsRows L M (Z.map Prod.snd))
  have HR := Lib.hid hr
  have HFT := Lib.hid (fitsrows_any A B C n c m d k cap L M Z W1 (hA.keep (Nat.le_refl _) hb1) (hB.keep (Nat.le_refl _) hb1) (hC.keep (Nat.le_refl _) hb1) (fun z hz => (hgd z hz).keep hb1) hn hm hk hnc hmd ha hb hL hM hn2 hm2 hk2 hsz r hr)
  have HA := Lib.hid (hA.keep (Nat.le_refl _) hb1)
  have HC := Lib.hid (hC.keep (Nat.le_refl _) hb1)
  have HE := Lib.hid (hE.keep (Nat.le_refl _) hb1)
  have HGD := Lib.hid (fun z hz => (hgd z hz).keep hb1)
  obtain ⟨b, hbt⟩ := bool_of (fitsP T)
  have HBT := Lib.hid hbt
  have HF7 := Lib.hid (show ∀ W, Below W1.heap.size W1 W → Calls Try.prog 7 #[.slice E p pc] W fun e w' => e = .returned (.bool b) ∧ W = w' from fun W hW => fits_any E p pc T W (HE.out.keep (Nat.le_refl _) hW) hp hp2 b hbt)
  have HN := Lib.hid hn
  have HNC := Lib.hid hnc
  have HC2 := Lib.hid hc2
  have HL := Lib.hid hL
  have HT := Lib.hid hT
  have HK := Lib.hid hk
  have HP := Lib.hid hp
  have HPC := Lib.hid hpc
  have HW1 := Lib.hid hW1
  clear hA hB hC hE hgd hn hm hk hp hnc hmd hpc ha hb he hL hM hT hc2 hn2 hm2 hp2 hk2 hsz hr hW1 hb1 hb0 hbb hbt
  go_enter Try.func3, Try.ntmps3
  go_upto_region 1 with fail
  rw [← HW1.out]
  go_upto_region 2 with (go_at_call 6; refine HFT.out.mono ?_; rintro e w1 ⟨rfl, hb⟩)
  have HBW := Lib.hid hb
  clear hb HFT s0 s1 r0 r1 r2 r3
  have s0 := cell_on HBW.out HS01.out.1
  have s1 := cell_on HBW.out HS01.out.2.1
  have r0 := cell_on HBW.out HS01.out.2.2.1
  have r1 := cell_on HBW.out HS01.out.2.2.2.1
  have r2 := cell_on HBW.out HS01.out.2.2.2.2.1
  go_upto_region 3 with (go_at_call 7; refine (HF7.out _ HBW.out).mono ?_; rintro e w2 ⟨rfl, rfl⟩)
  clear HF7
  by_cases hok : r = true ∧ b = true
  case neg =>
    have hng : r = false ∨ (r = true ∧ b = false) := by
      cases r
      · exact .inl rfl
      · cases b
        · exact .inr ⟨rfl, rfl⟩
        · simp at hok
    clear hok HR HBT HS01 HA HB HC HE HGD HN HNC HC2 HL HT HK HP HPC HW1
    rcases hng with rfl | ⟨rfl, rfl⟩
    all_goals
      go_wp2_with (go_at_call 8; refine (alive_any _).mono ?_; rintro e w3 ⟨rfl, hb⟩; have HB3 := Lib.hid hb; clear hb)
      go_ret
      exact ⟨rfl, bthen HB1.out (bthen HBW.out HB3.out)⟩
  case pos =>
  obtain ⟨rfl, rfl⟩ := hok
  have hft := HR.out.1 rfl
  have hk120 : k ≤ 120 := by have := hft.2.2.1; rw [List.length_map] at this; have := HK.out; omega
  have hkz : Z.length ≤ 120 := by have := HK.out; omega
  have hn20 : L.length ≤ 1000000 := by have := hft.1.1; omega
  have hm20 : M.length ≤ 1000000 := by have := hft.2.1.1; omega
  have hp20 : p ≤ 1000000 := by have := (HBT.out.1 rfl).1; have := HP.out; omega
  have hnm : namesP L := names_left hft.2.2.2.1.2.2.2
  have hro : ∀ z ∈ Z, rowOk L.length M.length z.2.t z.2.count z.2.dims z.2.aggs := fun z hz => hft.2.2.2.2 z.2 (List.mem_map.2 ⟨z, hz, rfl⟩)
  have hq : ∀ z ∈ Z, RowQ M.length L.length z.2 := fun z hz => rowok_q (hro z hz)
  have hC1 : RowsC W1 C Z := ⟨HC.out, fun z hz => (HGD.out z hz).good (by rw [(hq z hz).dims]; exact hn20) (by rw [(hq z hz).ok.len]; exact hm20)⟩
  have HCC := Lib.hid (show ∀ W, Below W1.heap.size W1 W → RowsC W C Z from fun W hW => hC1.keep hW)
  have HPJ := Lib.hid (project_any A B C E n c m d k cap p pc g L T Z w1 (HA.out.keep (Nat.le_refl _) HBW.out) HN.out HNC.out (by have := HN.out; omega) HC2.out (HCC.out _ HBW.out) HK.out (by omega) (HE.out.keep (Nat.le_refl _) HBW.out) HP.out HPC.out hp20 HT.out (fun z hz => ⟨(hq z hz).dims, (hro z hz).2.2.1, (hro z hz).2.2.2.1, (hq z hz).ok.lo, (hq z hz).ok.hi⟩))
  have HTO := Lib.hid (show ∀ e w', ProjPost w1 g L T Z e w' → _ from fun e w' h => proj_to (q := M.length) h (fun z hz => (hq z hz).ok))
  have HRJ := Lib.hid (show ∀ W, Below W1.heap.size W1 W → Calls Try.prog 10 #[.agg #[.slice A n c, .slice B m d], .slice C k cap, .slice E p pc, .int .i64 g] W (RProjPost W g L T Z) from fun W hW => refproject_any A B C E n c m d k cap p pc M.length g L T Z W (HA.out.keep (Nat.le_refl _) hW) HN.out (by have := HN.out; omega) (HCC.out _ hW) HK.out (by omega) (HE.out.keep (Nat.le_refl _) hW) HP.out hp20 hnm (fun z hz => ⟨hq z hz, (hro z hz).2.2.1, (hro z hz).2.2.2.1⟩))
  have HSC := Lib.hid (show ∀ W, Below W1.heap.size W1 W → Calls Try.prog 11 #[.agg #[.slice A n c, .slice B m d], .slice E p pc] W (SchemaPost W L T M) from fun W hW => schema_any A B E n c m d p pc L T M W (HA.out.keep (Nat.le_refl _) hW) HN.out HNC.out (by have := HN.out; omega) HC2.out (HB.out.keep (Nat.le_refl _) hW) HM.out HMD.out HBN.out (by have := HM.out; omega) (HE.out.keep (Nat.le_refl _) hW) HP.out HPC.out HAN.out hp20 HT.out)
  have HRS := Lib.hid (show ∀ W, Below W1.heap.size W1 W → Calls Try.prog 12 #[.agg #[.slice A n c, .slice B m d], .slice E p pc] W _ from fun W hW => refschema_any A B E n c m d p pc L T W (HA.out.keep (Nat.le_refl _) hW) HN.out (by have := HN.out; omega) (HE.out.keep (Nat.le_refl _) hW) HP.out (by omega) hnm)
  have HUQ := Lib.hid (show ∀ O O' x x', OutJ g L T (Z.map Prod.snd) O x → OutJ g L T (Z.map Prod.snd) O' x' → O = O' ∧ x = x' from fun O O' x x' h h' => h.uniq hnm h')
  have HWI := Lib.hid (show ∀ W x y, Below W1.heap.size W1 W → Calls Try.prog 15 #[.slice C k cap, .int .i64 x, .int .i64 y] W (WithinPost W x y Z) from fun W x y hW => within_any C k cap x y Z W (HCC.out _ hW) HK.out (by omega))
  have HRW := Lib.hid (show ∀ W x y, Below W1.heap.size W1 W → Calls Try.prog 16 #[.slice C k cap, .int .i64 x, .int .i64 y] W (WithinPost W x y Z) from fun W x y hW => refwithin_any C k cap x y Z W (HCC.out _ hW) HK.out (by omega))
  have HSP := Lib.hid (show ∀ W, Below W1.heap.size W1 W → Calls Try.prog 17 #[.slice C k cap, .int .i64 f] W (SplitPost W f Z) from fun W hW => split_any C k cap f Z W (HCC.out _ hW) HK.out (by omega))
  have HT0 := Lib.hid (show (Z.map Prod.snd).filter (fun r => decide (-9223372036854775808 ≤ r.t ∧ r.t < f)) = (stay (fun t => decide (t < f)) Z).map Prod.snd by
    unfold stay
    rw [List.filter_map]
    congr 1
    refine List.filter_congr fun z hz => ?_
    have := (hro z hz).2.2.1
    show decide (-9223372036854775808 ≤ z.2.t ∧ z.2.t < f) = decide (z.2.t < f)
    rw [decide_eq_decide]; omega)
  have HKZ := Lib.hid hkz
  have HTL := Lib.hid (show T.length ≤ 1000000 by have := HP.out; omega)
  have HML := Lib.hid hm20
  clear hft hkz hn20 hm20 hp20 hnm hro hq hC1 HR HBT
  go_upto_region 6 with (go_at_call 9; refine HPJ.out.mono ?_; rintro e w3 h3; obtain ⟨A3, n3, c3, Y3, x3, rfl, e3, l3, hY3, o3, hb⟩ := HTO.out _ _ h3; have HY3 := Lib.hid hY3; have HN3 := Lib.hid e3; have HL3 := Lib.hid l3; have HO3 := Lib.hid o3; have HB3 := Lib.hid hb; clear e3 l3 hY3 o3 hb h3)
  have HBW3 := Lib.hid (bthen HBW.out HB3.out)
  clear s0 s1 r0 r1 r2 HPJ HTO
  have s0 := cell_on HBW3.out HS01.out.1
  have s1 := cell_on HBW3.out HS01.out.2.1
  have r0 := cell_on HBW3.out HS01.out.2.2.1
  have r1 := cell_on HBW3.out HS01.out.2.2.2.1
  have r2 := cell_on HBW3.out HS01.out.2.2.2.2.1
  go_upto_region 7 with (go_at_call 10; refine (HRJ.out _ HBW3.out).mono ?_; rintro e w4 h4; obtain ⟨A4, c4, Y4, x4, rfl, hY4, o4, hb⟩ := rproj_to h4; have HY4 := Lib.hid hY4; have HO4 := Lib.hid o4; have HB4 := Lib.hid hb; clear hY4 o4 hb h4)
  have hu := HUQ.out _ _ _ _ HO3.out HO4.out
  have HEQ := Lib.hid hu.1
  obtain rfl : x3 = x4 := hu.2
  have HBW4 := Lib.hid (bthen HBW3.out HB4.out)
  have HSA := Lib.hid (show ∀ W, Below w4.heap.size w4 W → Calls Try.prog 14 #[.slice A3 n3 c3, .slice A4 Y4.length c4] W fun e w' => e = .returned (.bool true) ∧ Below W.heap.size W w' from fun W hW => by
    have hl : Y3.length = Y4.length := by have := congrArg List.length HEQ.out; rwa [List.length_map, List.length_map] at this
    exact refrows_any A3 A4 n3 c3 Y4.length c4 (Y3.map Prod.snd) (Y4.map Prod.snd) W ((HY3.out.keep HB4.out).keep hW).rowsM (HY4.out.keep hW).rowsM (by rw [List.length_map]; exact HN3.out) (by rw [List.length_map]) HL3.out (by have := HN3.out; have := HL3.out; omega) true (by simp [HEQ.out]))
  clear hu s0 s1 r0 r1 r2 HRJ HUQ HO3 HO4 HY3 HY4 HEQ HN3 HL3
  have s0 := cell_on HBW4.out HS01.out.1
  have s1 := cell_on HBW4.out HS01.out.2.1
  have r0 := cell_on HBW4.out HS01.out.2.2.1
  have r1 := cell_on HBW4.out HS01.out.2.2.2.1
  have r2 := cell_on HBW4.out HS01.out.2.2.2.2.1
  go_upto_region 8 with (go_at_call 11; refine (HSC.out _ HBW4.out).mono ?_; rintro e w5 h5; obtain ⟨A5, n5, c5, A6, n6, c6, P5, Q5, x5, rfl, e5, e6, h51, h52, o5, hb⟩ := schema_to h5; have HN5 := Lib.hid e5; have HN6 := Lib.hid e6; have H51 := Lib.hid h51; have H52 := Lib.hid h52; have HO5 := Lib.hid o5; have HB5 := Lib.hid hb; clear e5 e6 h51 h52 o5 hb h5)
  obtain ⟨w6, hw6⟩ : ∃ w6, w6 = w5.alloc (.cells #[.slice A5 n5 c5, .slice A6 n6 c6] 24) := ⟨_, rfl⟩
  have hb6 : Below w5.heap.size w5 w6 := by rw [hw6]; exact bpush (Below.refl _ _) _
  have HK6 := Lib.hid (show Blk w6 w5.heap.size 24 #[.slice A5 n5 c5, .slice A6 n6 c6] by rw [hw6]; exact Blk.new _ _ _)
  obtain ⟨g5, hg5⟩ : ∃ g5, g5 = w5.heap.size := ⟨_, rfl⟩
  rw [← hw6]
  rw [← hg5] at HK6 ⊢
  have HB6 := Lib.hid hb6
  clear hw6 hb6 hg5 s0 s1 r0 r1 r2 HSC
  have HBW6 := Lib.hid (bthen HBW4.out (bthen HB5.out HB6.out))
  have s0 := cell_on HBW6.out HS01.out.1
  have s1 := cell_on HBW6.out HS01.out.2.1
  have r0 := cell_on HBW6.out HS01.out.2.2.1
  have r1 := cell_on HBW6.out HS01.out.2.2.2.1
  have r2 := cell_on HBW6.out HS01.out.2.2.2.2.1
  go_upto_region 9 with (go_at_call 12; refine (HRS.out _ HBW6.out).mono ?_; rintro e w7 h7; obtain ⟨A7, n7, c7, A8, n8, c8, P7, Q7, x7, rfl, e7, e8, h71, h72, o7, hb⟩ := rschema_to (A := A) h7 (HE.out.keep (Nat.le_refl _) HBW6.out) (HB.out.keep (Nat.le_refl _) HBW6.out) HP.out HM.out; have HN7 := Lib.hid e7; have HN8 := Lib.hid e8; have H71 := Lib.hid h71; have H72 := Lib.hid h72; have HO7 := Lib.hid o7; have HB7 := Lib.hid hb; clear e7 e8 h71 h72 o7 hb h7)
  have hu := HO5.out.uniq HO7.out
  obtain rfl : x5 = x7 := hu.2.2
  obtain rfl : P5 = P7 := hu.1
  obtain rfl : Q5 = Q7 := hu.2.1
  obtain ⟨w8, hw8⟩ : ∃ w8, w8 = w7.alloc (.cells #[.slice A7 n7 c7, .slice A8 n8 c8] 24) := ⟨_, rfl⟩
  have hb8 : Below w7.heap.size w7 w8 := by rw [hw8]; exact bpush (Below.refl _ _) _
  have HK8 := Lib.hid (show Blk w8 w7.heap.size 24 #[.slice A7 n7 c7, .slice A8 n8 c8] by rw [hw8]; exact Blk.new _ _ _)
  obtain ⟨g7, hg7⟩ : ∃ g7, g7 = w7.heap.size := ⟨_, rfl⟩
  rw [← hw8]
  rw [← hg7] at HK8 ⊢
  have HB8 := Lib.hid hb8
  have HK6' := Lib.hid ((HK6.out.below HB7.out HK6.out.lt).below hb8 ((HK6.out.below HB7.out HK6.out.lt).lt))
  have HBW8 := Lib.hid (bthen HBW6.out (bthen HB7.out HB8.out))
  have HB68 := Lib.hid (bthen HB6.out (bthen HB7.out HB8.out))
  have hl5 : n5 ≤ 1000000 := by have := (outS_len HO5.out).1; have := HN5.out; have := HTL.out; omega
  have hl6 : n6 ≤ 1000000 := by have := (outS_len HO5.out).2; have := HN6.out; have := HML.out; omega
  have HTX1 := Lib.hid (sametexts_any A5 A7 n5 c5 n7 c7 P5 P5 w8 (H51.out.keep (Nat.le_refl _) HB68.out) (H71.out.keep (Nat.le_refl _) HB8.out) HN5.out HN7.out (by omega) (by have := HN5.out; have := HN7.out; omega) true (by simp))
  have HTX2 := Lib.hid (show ∀ W, Below w8.heap.size w8 W → Calls Try.prog 13 #[.slice A6 n6 c6, .slice A8 n8 c8] W fun e w' => e = .returned (.bool true) ∧ Below W.heap.size W w' from fun W hW => sametexts_any A6 A8 n6 c6 n8 c8 Q5 Q5 W ((H52.out.keep (Nat.le_refl _) HB68.out).keep (Nat.le_refl _) hW) ((H72.out.keep (Nat.le_refl _) HB8.out).keep (Nat.le_refl _) hW) HN6.out HN8.out (by omega) (by have := HN6.out; have := HN8.out; omega) true (by simp))
  clear hw8 hb8 hg7 s0 s1 r0 r1 r2 HRS hu HO5 HO7 H51 H52 H71 H72 HN5 HN6 HN7 HN8 hl5 hl6
  have k0 := HK6'.out.cell 0
  have k1 := HK6'.out.cell 1
  have j0 := HK8.out.cell 0
  have j1 := HK8.out.cell 1
  simp at k0 k1 j0 j1
  go_upto_region 10 with (go_at_call 13; refine HTX1.out.mono ?_; rintro e w9 ⟨rfl, hb⟩; have HB9 := Lib.hid hb; clear hb)
  clear k0 k1 j0 j1 HTX1
  have k1 := cell_on HB9.out (by have h := HK6'.out.cell 1; simpa using h)
  have j1 := cell_on HB9.out (by have h := HK8.out.cell 1; simpa using h)
  go_upto_region 11 with (go_at_call 13; refine (HTX2.out _ HB9.out).mono ?_; rintro e w10 ⟨rfl, hb⟩; have HB10 := Lib.hid hb; clear hb)
  clear k1 j1 HTX2
  have HBW10 := Lib.hid (bthen HBW8.out (bthen HB9.out HB10.out))
  have HB4A := Lib.hid (bthen (bthen (bthen HB5.out HB68.out) HB9.out) HB10.out)
  clear HK6 HK8 HK6'
  obtain ⟨wd, hwd⟩ : ∃ wd, wd = w10.drew := ⟨_, rfl⟩
  have hbd : Below w10.heap.size w10 wd := by rw [hwd]; exact below_drewN (Below.refl _ _) 1
  have hs0 : (fun w' => Below W1.heap.size W1 w' ∧ Below w10.heap.size w10 w') wd := ⟨bthen HBW10.out hbd, hbd⟩
  rw [hwd] at hs0
  refine wp_region_held_drew (S := fun w' => Below W1.heap.size W1 w' ∧ Below w10.heap.size w10 w') (by kernel_rfl) hs0 ?_
  intro hHeld
  rw [← hwd] at hHeld ⊢
  clear hwd hbd hs0
  refine take_want (i := 0) (v := ?v0a) rfl (by kernel_rfl) (by kernel_rfl) (by kernel_rfl) (fun _ _ _ h => h) (by rfl) ?y0a (by assumption) ?r0a
  case y0a => (intro w hSw; go_simp; all_goals with_reducible rfl)
  (try simp only [Act.put, List.setIfInBounds_toArray, List.set_cons_zero, List.set_cons_succ])
  refine take_want (i := 1) (v := ?v1a) rfl (by kernel_rfl) (by kernel_rfl) (by kernel_rfl) (fun _ _ _ h => h) (by rfl) ?y1a (by assumption) ?r1a
  case y1a => (intro w hSw; go_simp; all_goals with_reducible rfl)
  (try simp only [Act.put, List.setIfInBounds_toArray, List.set_cons_zero, List.set_cons_succ])
  refine take_want (i := 2) (v := ?v2a) rfl (by kernel_rfl) (by kernel_rfl) (by kernel_rfl) (fun _ _ _ h => h) (by rfl) ?y2a (by assumption) ?r2a
  case y2a => (intro w hSw; have q2 := cell_on hSw.1 HS01.out.2.2.2.2.1; go_simp; all_goals with_reducible rfl)
  (try simp only [Act.put, List.setIfInBounds_toArray, List.set_cons_zero, List.set_cons_succ])
  refine take_want (i := 3) (v := ?v3a) rfl (by kernel_rfl) (by kernel_rfl) (by kernel_rfl) (fun _ _ _ h => h) (by rfl) ?y3a (by assumption) ?r3a
  case y3a => (intro w hSw; go_simp; all_goals with_reducible rfl)
  (try simp only [Act.put, List.setIfInBounds_toArray, List.set_cons_zero, List.set_cons_succ])
  refine take_want (i := 4) (v := ?v4a) rfl (by kernel_rfl) (by kernel_rfl) (by kernel_rfl) (fun _ _ _ h => h) (by rfl) ?y4a (by assumption) ?r4a
  case y4a => (intro w hSw; have q2 := cell_on hSw.1 HS01.out.2.2.2.2.2; go_simp; all_goals with_reducible rfl)
  (try simp only [Act.put, List.setIfInBounds_toArray, List.set_cons_zero, List.set_cons_succ])
  refine take_want (i := 6) (v := ?v6a) rfl (by kernel_rfl) (by kernel_rfl) (by kernel_rfl) (fun _ _ _ h => h) (by rfl) ?y6a (by assumption) ?r6a
  case y6a => (intro w hSw; go_simp; all_goals with_reducible rfl)
  (try simp only [Act.put, List.setIfInBounds_toArray, List.set_cons_zero, List.set_cons_succ])
  refine take_want (i := 7) (v := ?v7a) rfl (by kernel_rfl) (by kernel_rfl) (by kernel_rfl) (fun _ _ _ h => h) (by rfl) ?y7a (by assumption) ?r7a
  case y7a => (intro w hSw; go_simp; all_goals with_reducible rfl)
  (try simp only [Act.put, List.setIfInBounds_toArray, List.set_cons_zero, List.set_cons_succ])
  refine take_want (i := 8) (v := ?v8a) rfl (by kernel_rfl) (by kernel_rfl) (by kernel_rfl) (fun _ _ _ h => h) (by rfl) ?y8a (by assumption) ?r8a
  case y8a => (intro w hSw; have q2 := cell_on hSw.1 HS01.out.2.2.2.2.1; go_simp; all_goals with_reducible rfl)
  (try simp only [Act.put, List.setIfInBounds_toArray, List.set_cons_zero, List.set_cons_succ])
  refine take_want (i := 9) (v := ?v9a) rfl (by kernel_rfl) (by kernel_rfl) (by kernel_rfl) (fun _ _ _ h => h) (by rfl) ?y9a (by assumption) ?r9a
  case y9a => (intro w hSw; go_simp; all_goals with_reducible rfl)
  (try simp only [Act.put, List.setIfInBounds_toArray, List.set_cons_zero, List.set_cons_succ])
  refine take_want (i := 10) (v := ?v10a) rfl (by kernel_rfl) (by kernel_rfl) (by kernel_rfl) (fun _ _ _ h => h) (by rfl) ?y10a (by assumption) ?r10a
  case y10a => (intro w hSw; have q2 := cell_on hSw.1 HS01.out.2.2.2.2.2; go_simp; all_goals with_reducible rfl)
  (try simp only [Act.put, List.setIfInBounds_toArray, List.set_cons_zero, List.set_cons_succ])
  refine wpAnyH_ready (rs := [5]) (by kernel_rfl) (by simp) ?_
  refine AllReadyH.cons rfl (fun K hK => ?_) AllReadyH.nil
  go_simp
  (go_at_call 15; refine (HWI.out _ f u hHeld.1).mono ?_; rintro e V1 ⟨D1, m1, q1, U1, rfl, e1, z1, hU1, _, y1, hb⟩)
  have HU1 := Lib.hid hU1
  have HN1 := Lib.hid e1
  have HZ1 := Lib.hid z1
  have HY1 := Lib.hid y1
  skip
  refine hK.out _ _ ⟨bthen hHeld.1 hb, bthen hHeld.2 hb⟩ (fun hHeld => ?_)
  clear hK K
  (try simp only [Act.put, List.setIfInBounds_toArray, List.set_cons_zero, List.set_cons_succ])
  have HKK := Lib.hid hb; clear hU1 e1 z1 y1
  refine wpAnyH_ready (rs := [11]) (by kernel_rfl) (by simp) ?_
  refine AllReadyH.cons rfl (fun K hK => ?_) AllReadyH.nil
  go_simp
  (go_at_call 16; refine (HRW.out _ f u hHeld.1).mono ?_; rintro e V2 ⟨D2, m2, q2, U2, rfl, e2, z2, hU2, _, y2, hb⟩)
  have HU2 := Lib.hid hU2
  have HN2 := Lib.hid e2
  have HZ2 := Lib.hid z2
  have HY2 := Lib.hid y2
  have HU1 := Lib.hid (HU1.out.keep hb)
  refine hK.out _ _ ⟨bthen hHeld.1 hb, bthen hHeld.2 hb⟩ (fun hHeld => ?_)
  clear hK K
  (try simp only [Act.put, List.setIfInBounds_toArray, List.set_cons_zero, List.set_cons_succ])
  clear hU2 e2 z2 y2
  refine wpAnyH_ready (rs := [12]) (by kernel_rfl) (by simp) ?_
  refine AllReadyH.cons rfl (fun K hK => ?_) AllReadyH.nil
  go_simp
  (go_at_call 14; refine (refrows_any D1 D2 m1 q1 m2 q2 (U1.map Prod.snd) (U2.map Prod.snd) _ HU1.out.rowsM HU2.out.rowsM (by rw [List.length_map]; exact HN1.out) (by rw [List.length_map]; exact HN2.out) (by have := HZ1.out; have := HKZ.out; omega) (by have := HZ2.out; have := HKZ.out; omega) true (by rw [HY1.out, HY2.out]; simp)).mono ?_; rintro e V3 ⟨rfl, hb⟩)
  refine hK.out _ _ ⟨bthen hHeld.1 hb, bthen hHeld.2 hb⟩ (fun hHeld => ?_)
  clear hK K
  (try simp only [Act.put, List.setIfInBounds_toArray, List.set_cons_zero, List.set_cons_succ])
  refine take_want (i := 13) (v := ?v13a) rfl (by kernel_rfl) (by kernel_rfl) (by kernel_rfl) (fun _ _ _ h => h) (by rfl) ?y13a (by assumption) ?r13a
  case y13a => (intro w hSw; go_simp; all_goals with_reducible rfl)
  (try simp only [Act.put, List.setIfInBounds_toArray, List.set_cons_zero, List.set_cons_succ])
  refine wpAnyH_done (by kernel_rfl) ?_ _
  have HBWb := Lib.hid hHeld.1
  have HBAb := Lib.hid (bthen HB4A.out hHeld.2)
  clear hHeld HU1 HU2 HN1 HN2 HZ1 HZ2 HY1 HY2
  have r2 := cell_on HBWb.out HS01.out.2.2.2.2.1
  go_upto_region 13 with (go_at_call 17; refine (HSP.out _ HBWb.out).mono ?_; rintro e w12 ⟨D3, m3, q3, D4, m4, q4, U3, U4, rfl, e3, e4, hU3, hU4, _, _, y3, y4, hb⟩; have HU3 := Lib.hid hU3; have HN3 := Lib.hid e3; have HN4 := Lib.hid e4; have HY3 := Lib.hid y3; have HB12 := Lib.hid hb; clear e3 e4 hU3 hU4 y3 y4 hb)
  clear r2
  have HBWc := Lib.hid (bthen HBWb.out HB12.out)
  have HBAc := Lib.hid (bthen HBAb.out HB12.out)
  have HNS := Lib.hid (show m3 + m4 = k by rw [HN3.out, HN4.out, stay_sum, HK.out])
  have r2 := cell_on HBWc.out HS01.out.2.2.2.2.1
  have HR13 := Lib.hid (show ∀ (W : World) (D5 : Option Addr) (m5 q5 : Nat) (U5 : List RZ), Below w12.heap.size w12 W → RowsC W D5 U5 → m5 = U5.length → m5 ≤ Z.length → U5.map Prod.snd = (Z.map Prod.snd).filter (fun r => decide (-9223372036854775808 ≤ r.t ∧ r.t < f)) → Calls Try.prog 14 #[.slice D3 m3 q3, .slice D5 m5 q5] W fun e w' => e = .returned (.bool true) ∧ Below W.heap.size W w' from fun W D5 m5 q5 U5 hW hU e5 z5 y5 => refrows_any D3 D5 m3 q3 m5 q5 (U3.map Prod.snd) (U5.map Prod.snd) W (HU3.out.keep hW).rowsM hU.rowsM (by rw [HY3.out, List.length_map]; exact HN3.out) (by rw [List.length_map]; exact e5) (by have := HNS.out; omega) (by have := HKZ.out; omega) true (by rw [HY3.out, y5, HT0.out]; simp))
  go_upto_region 14 with (first
    | (go_at_call 16; refine (HRW.out _ (-9223372036854775808) f HBWc.out).mono ?_; rintro e V2 ⟨D5, m5, q5, U5, rfl, e5, z5, hU5, _, y5, hb⟩; have HV := Lib.hid hb; have HV14 := Lib.hid (HR13.out V2 D5 m5 q5 U5 hb hU5 e5 z5 y5); clear hU5 e5 z5 y5 hb)
    | (go_at_call 14; refine HV14.out.mono ?_; rintro e V3 ⟨rfl, hb⟩; have HV3 := Lib.hid hb; clear hb))
  have HBWd := Lib.hid (bthen HBWc.out (bthen HV.out HV3.out))
  have HBAd := Lib.hid (bthen HBAc.out (bthen HV.out HV3.out))
  clear r2 HV14
  have hns := HNS.out
  clear HU3 HN3 HN4 HY3 HT0 HRW HWI HSP HNS HR13
  obtain rfl : k = m3 + m4 := hns.symm
  have HSV := Lib.hid (HSA.out _ HBAd.out)
  clear HSA
  go_wp2_with (first
    | (go_at_call 14; refine HSV.out.mono ?_; rintro e w14 ⟨rfl, hb⟩; have HB14 := Lib.hid hb; clear hb)
    | (go_at_call 8; refine (alive_any _).mono ?_; rintro e w15 ⟨rfl, hb⟩; have HB15 := Lib.hid hb; clear hb))
  go_ret
  exact ⟨rfl, bthen HB1.out (bthen HBWd.out (bthen HB14.out HB15.out))⟩
end Go.Proofs.Ytkfcpmmiimpkbaa
