/- The two rows, and what becomes of them. What a projection leaves: the mathematics of CuboidSame. CuboidSame. -/
import Derived.Test.YtkfcpmmiimpkbaaCD
import Derived.Test.YtkfcpmmiimpkbaaCX
namespace Go.Proofs.Ytkfcpmmiimpkbaa
open Go.RowKit Go.Shelf
set_option linter.unusedSimpArgs false
set_option linter.unusedVariables false
def tA : ByteArray := ⟨#[97]⟩
def tB : ByteArray := ⟨#[98]⟩
def tX : ByteArray := ⟨#[120]⟩
def tP : ByteArray := ⟨#[112]⟩
def tQ : ByteArray := ⟨#[113]⟩
def twoR : List RV := [⟨3, [tX, tP], 1, []⟩, ⟨4, [tX, tQ], 2, []⟩]
set_option maxRecDepth 100000 in
set_option maxHeartbeats 4000000 in
theorem two_any (w : World) : Calls Try.prog 21 #[] w fun e w' => ∃ A B C Z, e = .returned (.tuple #[.agg #[.slice A 2 2, B], .slice C 2 2]) ∧ B = .slice none 0 0 ∧ Row w' A (texts [tA, tB]) ∧ RowsC w' C Z ∧ Z.map Prod.snd = twoR ∧ Below w.heap.size w w' := by
  go_enter Try.func21, Try.ntmps21
  go_wp2_with fail
  refine bodyPost_ret (v := .tuple #[.agg #[.slice (some ⟨w.heap.size + 1, 0, none⟩) 2 2, .slice none 0 0], .slice (some ⟨w.heap.size + 1 + 1 + 1 + 1 + 1, 0, none⟩) 2 2]) (by simp [results, Try.results21, go_sem]) rfl ?_
  refine ⟨_, _, _, [(⟨some ⟨w.heap.size + 1 + 1 + 1, 0, none⟩, 2, 2, none, 0, 0⟩, ⟨3, [tX, tP], 1, []⟩), (⟨some ⟨w.heap.size + 1 + 1 + 1 + 1, 0, none⟩, 2, 2, none, 0, 0⟩, ⟨4, [tX, tQ], 2, []⟩)], rfl, rfl, ?_, ⟨?_, ?_⟩, rfl, ?_⟩
  · refine Row.keep ?_ (Nat.le_refl _) (bpush (bpush (bpush (bpush (Below.refl _ _) _) _) _) _)
    exact Row.made (by simp) rfl
  · exact Row.made (t := 45) (by simp) rfl
  · intro z hz
    simp only [List.mem_cons, List.not_mem_nil, or_false] at hz
    rcases hz with rfl | rfl
    · refine ⟨?_, rfl, Nat.le_refl _, (fun h => nomatch h), by simp, .inl rfl, rfl, Nat.le_refl _, fun _ => rfl, by simp⟩
      refine Row.keep ?_ (Nat.le_refl _) (bpush (bpush (Below.refl _ _) _) _)
      exact Row.made (by simp) rfl
    · refine ⟨?_, rfl, Nat.le_refl _, (fun h => nomatch h), by simp, .inl rfl, rfl, Nat.le_refl _, fun _ => rfl, by simp⟩
      refine Row.keep ?_ (Nat.le_refl _) (bpush (Below.refl _ _) _)
      exact Row.made (by simp) rfl
  · exact bpush (bpush (bpush (bpush (bpush (bpush (Below.refl _ _) _) _) _) _) _) _
theorem sub_a : subsetP [tA] [tA, tB] := by
  refine ⟨⟨fun s hs => ?_, fun i j hij h => by simp at h; omega⟩, by decide⟩
  rw [List.mem_singleton.1 hs]
  refine ⟨by decide, by decide, fun h => absurd ((show ∀ s ∈ wordsL, 2 ≤ s.size by decide) _ h) (by decide), fun i h => ?_⟩
  obtain rfl : i = 0 := by have : tA.size = 1 := rfl; omega
  show okN 0 97
  exact .inl (by decide)
theorem sub_ba : ¬ subsetP [tB, tA] [tA, tB] := fun h => absurd h.2 (by decide)
theorem proj_two {I : List Nat} {K' O : List RV} {x : Int} {Z : List RZ} (hz : Z.map Prod.snd = twoR) (hp : PlcIs [tA, tB] [tA] I) (hl : I.length = 1) (hs : SortsTo (Z.map fun z => projR 5 I z.2) K') (hf : foldL K' = (O, x)) : x = 0 ∧ O = [⟨0, [tX], 3, []⟩] := by
  obtain ⟨i, rfl⟩ : ∃ i, I = [i] := by
    match I, hl with
    | [i], _ => exact ⟨i, rfl⟩
  obtain ⟨h1, h2⟩ := hp.2 0 (by simp) (by simp)
  simp at h1 h2
  have hi : i = 0 := by
    rcases Nat.lt_or_ge i 1 with h | h
    · omega
    · obtain rfl : i = 1 := by omega
      exact absurd h2 (show ¬ tB = tA by decide)
  subst hi
  have e : Z.map (fun z => projR 5 [0] z.2) = [⟨0, [tX], 1, []⟩, ⟨0, [tX], 2, []⟩] := by
    have : Z.map (fun z => projR 5 [0] z.2) = (Z.map Prod.snd).map (projR 5 [0]) := by rw [List.map_map]; rfl
    rw [this, hz]; rfl
  rw [e] at hs
  have hs2 : SortsTo [(⟨0, [tX], 1, []⟩ : RV), ⟨0, [tX], 2, []⟩] [⟨0, [tX], 1, []⟩, ⟨0, [tX], 2, []⟩] := by
    refine ⟨?_, fun k => rfl⟩
    refine List.Pairwise.cons (fun b hb => ?_) (List.Pairwise.cons (fun b hb => by cases hb) List.Pairwise.nil)
    rw [List.mem_singleton.1 hb]
    exact Int.le_of_eq (cmpV_zero.2 ⟨rfl, rfl⟩)
  rw [hs.uniq hs2, show foldL [(⟨0, [tX], 1, []⟩ : RV), ⟨0, [tX], 2, []⟩] = ([⟨0, [tX], 3, []⟩], 0) from by kernel_rfl] at hf
  exact ⟨(congrArg Prod.snd hf).symm, (congrArg Prod.fst hf).symm⟩
theorem stay_len (st : Int → Bool) (Z : List RZ) : (stay st Z).length = ((Z.map Prod.snd).filter fun r => st r.t).length := by
  unfold stay; rw [List.filter_map, List.length_map]; rfl
theorem proj1 {w w' : World} {Z : List RZ} {e : Ending} (h : ProjPost w 5 [tA, tB] [tA] Z e w') (hz : Z.map Prod.snd = twoR) : ∃ A c y, e = .returned (.tuple #[.slice A 1 c, .int .i64 0]) ∧ RowsC w' A [y] ∧ y.2 = ⟨0, [tX], 3, []⟩ ∧ Below w.heap.size w w' := by
  rcases h with ⟨hn, _⟩ | ⟨_, hn, _⟩ | ⟨_, _, I, hI, hl, A, n, c, Y, x, K', rfl, rfl, hs, hf, hC, hnc, _, hb⟩
  · exact absurd sub_a hn
  · exact absurd (by decide) hn
  · obtain ⟨rfl, hY⟩ := proj_two hz hI hl hs hf
    obtain ⟨y, rfl⟩ : ∃ y, Y = [y] := List.length_eq_one_iff.1 (by have := congrArg List.length hY; rwa [List.length_map] at this)
    exact ⟨A, c, y, rfl, hC, (List.cons.inj hY).1, hb⟩
theorem proj2 {w w' : World} {Z : List RZ} {e : Ending} (h : ProjPost w 5 [tA, tB] [tB, tA] Z e w') : e = .returned (.tuple #[.slice none 0 0, .int .i64 141]) ∧ Below w.heap.size w w' := by
  rcases h with ⟨_, rfl, hb⟩ | ⟨hs, _⟩ | ⟨hs, _⟩
  · exact ⟨rfl, hb⟩
  · exact absurd hs sub_ba
  · exact absurd hs sub_ba
theorem split4 {w w' : World} {Z : List RZ} {e : Ending} (h : SplitPost w 4 Z e w') (hz : Z.map Prod.snd = twoR) : ∃ A c A2 c2, e = .returned (.tuple #[.slice A 1 c, .slice A2 1 c2]) ∧ Below w.heap.size w w' := by
  obtain ⟨A, n, c, A2, n2, c2, Y, Y2, rfl, rfl, rfl, _, _, _, _, _, _, hb⟩ := h
  refine ⟨A, c, A2, c2, ?_, hb⟩
  rw [stay_len, stay_len, hz]; rfl
theorem twoR_ok {Z : List RZ} (hz : Z.map Prod.snd = twoR) : ∀ z ∈ Z, z.2.dims.length = [tA, tB].length ∧ 0 ≤ z.2.t ∧ z.2.t ≤ 1099511627776 ∧ 0 ≤ z.2.count ∧ z.2.count ≤ 1048576 := fun z h => by
  have : z.2 ∈ twoR := hz ▸ List.mem_map.2 ⟨z, h, rfl⟩
  unfold twoR at this
  simp only [List.mem_cons, List.not_mem_nil, or_false] at this
  rcases this with e | e <;> rw [e] <;> exact ⟨rfl, by decide, by decide, by decide, by decide⟩
theorem names2 : ∀ M : List ByteArray, (∀ s ∈ M, s = tA ∨ s = tB) → ∀ s ∈ M, s.size ≤ 9223372036854775807 := fun M h s hs => by
  rcases h s hs with rfl | rfl <;> decide
set_option maxRecDepth 100000 in
set_option maxHeartbeats 8000000 in
theorem alive_any (w : World) : Calls Try.prog 8 #[] w fun e w' => e = .returned (.bool true) ∧ Below w.heap.size w w' := by
  go_enter Try.func8, Try.ntmps8
  go_upto_region 2 with (go_at_call 21; refine (two_any _).mono ?_; rintro e w1 ⟨A, B, C, Z, rfl, rfl, hA, hC, hZ, hb⟩; have HA := Lib.hid hA; have HC := Lib.hid hC; have HZ := Lib.hid hZ; have HB := Lib.hid hb; clear hA hC hZ hb)
  obtain ⟨V, hV⟩ : ∃ V, V = w1.alloc (.cells #[.slice A 2 2, .slice none 0 0] 24) := ⟨_, rfl⟩
  have hbV : Below w1.heap.size w1 V := by rw [hV]; exact bpush (Below.refl _ _) _
  have s0 : V.cell? ⟨w1.heap.size, 0, none⟩ = some (.slice A 2 2) := by rw [hV]; exact cell_made rfl rfl
  have s1 : V.cell? ⟨w1.heap.size, 1, none⟩ = some (.slice none 0 0) := by rw [hV]; exact cell_made rfl rfl
  rw [← hV]
  have HS := Lib.hid (And.intro s0 s1)
  have HBV := Lib.hid (bthen HB.out hbV)
  have HAV := Lib.hid (HA.out.keep (Nat.le_refl _) hbV)
  have HCV := Lib.hid (HC.out.keep hbV)
  have HL := Lib.hid (show 2 = Z.length by have := congrArg List.length HZ.out; rw [List.length_map] at this; exact this.symm)
  clear HA HC HB hbV hV
  have HP1 := Lib.hid (project_any A none C (some ⟨V.heap.size, 0, none⟩) 2 2 0 0 2 2 1 1 5 [tA, tB] [tA] Z (V.alloc (.cells #[.string ⟨#[97]⟩] 9)) (HAV.out.keep (Nat.le_refl _) (bpush (Below.refl _ _) _)) rfl (Nat.le_refl _) (by omega) (by omega) (HCV.out.keep (bpush (Below.refl _ _) _)) HL.out (by omega) (Row.made rfl rfl) rfl (Nat.le_refl _) (by omega) (names2 _ (by simp)) (twoR_ok HZ.out))
  have HP2 := Lib.hid (show ∀ W, Below V.heap.size V W → Calls Try.prog 9 #[.agg #[.slice A 2 2, .slice none 0 0], .slice C 2 2, .slice (some ⟨W.heap.size, 0, none⟩) 2 2, .int .i64 5] (W.alloc (.cells #[.string ⟨#[98]⟩, .string ⟨#[97]⟩] 9)) (ProjPost (W.alloc (.cells #[.string ⟨#[98]⟩, .string ⟨#[97]⟩] 9)) 5 [tA, tB] [tB, tA] Z) from fun W hW =>
    project_any A none C (some ⟨W.heap.size, 0, none⟩) 2 2 0 0 2 2 2 2 5 [tA, tB] [tB, tA] Z _ (HAV.out.keep (Nat.le_refl _) (bpush hW _)) rfl (Nat.le_refl _) (by omega) (by omega) (HCV.out.keep (bpush hW _)) HL.out (by omega) (Row.made rfl rfl) rfl (Nat.le_refl _) (by omega) (names2 _ (by simp)) (twoR_ok HZ.out))
  have HP3 := Lib.hid (show ∀ W, Below V.heap.size V W → Calls Try.prog 17 #[.slice C 2 2, .int .i64 4] W (SplitPost W 4 Z) from fun W hW => split_any C 2 2 4 Z W (HCV.out.keep hW) HL.out (by omega))
  clear HL
  go_upto_region 3 with (go_at_call 9; refine HP1.out.mono ?_; rintro e w2 h2; obtain ⟨A1, c1, y, rfl, hC1, hy, hb⟩ := proj1 h2 HZ.out; have HC1 := Lib.hid hC1; have HY := Lib.hid hy; have HB2 := Lib.hid ((bpush (Below.refl V.heap.size V) _).trans (hb.mono (by simp))); clear hC1 hy hb h2)
  have t0 := cell_on HB2.out HS.out.1
  have t1 := cell_on HB2.out HS.out.2
  clear s0 s1 HP1
  go_upto_region 4 with (go_at_call 9; refine (HP2.out _ HB2.out).mono ?_; rintro e w3 h3; obtain ⟨rfl, hb⟩ := proj2 h3; have HB3 := Lib.hid ((bpush (Below.refl w2.heap.size w2) _).trans (hb.mono (by simp))); clear hb h3)
  have HB23 := Lib.hid (bthen HB2.out HB3.out)
  clear t0 t1 HP2
  go_upto_region 5 with (go_at_call 17; refine (HP3.out _ HB23.out).mono ?_; rintro e w4 h4; obtain ⟨A4, c4, A5, c5, rfl, hb⟩ := split4 h4 HZ.out; have HB4 := Lib.hid hb; clear hb h4)
  have HC4 := Lib.hid (HC1.out.keep (bthen HB3.out HB4.out))
  obtain ⟨bA, oA, rfl, x0, x1, x2, x3⟩ := row4 HC4.out.row (show 0 < [y].length by simp)
  obtain ⟨⟨D1, n1, d1, G1, gn1, gc1⟩, yv⟩ := y
  obtain rfl : yv = ⟨0, [tX], 3, []⟩ := HY.out
  obtain rfl : n1 = 1 := (HC4.out.good _ (List.mem_singleton.2 rfl)).nd
  simp at x0 x1 x2 x3
  have HBE := Lib.hid (bthen HBV.out (bthen HB23.out HB4.out))
  clear HB3 HB23 HP3 HB2 HC1 HC4 HAV HCV
  go_wp2_with fail
  go_ret
  exact ⟨by simp, HBE.out⟩
end Go.Proofs.Ytkfcpmmiimpkbaa
namespace Go.Proofs.Ytkfcpmmiimpkbaa
open Go.RowKit Go.Shelf
set_option linter.unusedSimpArgs false
set_option linter.unusedVariables false
theorem pickL_range : ∀ (D : List ByteArray) (I : List Nat), I = List.range D.length → pickL D I = D := fun D I e => by
  subst e
  unfold pickL
  apply List.ext_getElem?
  intro i
  have h : (List.range D.length).filterMap (fun i => D[i]?) = (List.range D.length).pmap (fun i (h : i < D.length) => D[i]) (fun i hi => List.mem_range.1 hi) := by
    have : ∀ (J : List Nat) (hJ : ∀ i ∈ J, i < D.length), J.filterMap (fun i => D[i]?) = J.pmap (fun i (h : i < D.length) => D[i]) hJ := by
      intro J
      induction J with
      | nil => intro _; rfl
      | cons j J ih =>
        intro hJ
        have hj := hJ j (List.mem_cons_self ..)
        rw [List.filterMap_cons, List.getElem?_eq_getElem hj, List.pmap_cons, ih (fun i hi => hJ i (List.mem_cons_of_mem _ hi))]
    exact this _ _
  rw [h]
  have e : (List.range D.length).pmap (fun i (h : i < D.length) => D[i]) (fun i hi => List.mem_range.1 hi) = D := by
    apply List.ext_getElem
    · simp
    · intro i h1 h2
      simp
  rw [e]
theorem plc_self {L : List ByteArray} {I : List Nat} (h : PlcIs L L I) (hl : I.length = L.length) (ha : apartP L) : I = List.range L.length := by
  apply List.ext_getElem
  · simp [hl]
  · intro i h1 h2
    rw [List.getElem_range]
    obtain ⟨hj, e⟩ := h.2 i h1 (by omega)
    rcases Nat.lt_trichotomy I[i] i with c | c | c
    · exact absurd e (ha _ _ c (by omega))
    · exact c
    · exact absurd e.symm (ha _ _ c hj)
theorem flr_one (t : Int) : flr t 1 = t := by unfold flr; omega
theorem proj_self {L : List ByteArray} {I : List Nat} {Z : List RZ} (h : PlcIs L L I) (hl : I.length = L.length) (ha : apartP L) (hd : ∀ z ∈ Z, z.2.dims.length = L.length) : (Z.map fun z => projR 1 I z.2) = Z.map Prod.snd := by
  apply List.map_congr_left
  intro z hz
  unfold projR
  rw [flr_one, pickL_range _ _ (by rw [plc_self h hl ha, hd z hz])]
theorem sub_self {L : List ByteArray} (h : namesP L) : subsetP L L := ⟨h, List.Sublist.refl _⟩
theorem names_left {L M : List ByteArray} (h : namesP (L ++ M)) : namesP L := by
  refine ⟨fun s hs => h.1 s (List.mem_append_left _ hs), fun i j hij hj => ?_⟩
  have := h.2 i j hij (by rw [List.length_append]; omega)
  rwa [List.getElem_append_left (by omega), List.getElem_append_left hj] at this
theorem sub_nil (L : List ByteArray) : subsetP [] L := ⟨⟨(fun s hs => by cases hs), (fun i j _ h => by cases h)⟩, List.nil_sublist _⟩
theorem foldF_len : ∀ (n : Nat) (K : List RV), (foldF n K).1.length ≤ K.length := by
  intro n
  induction n with
  | zero => intro K; simp [foldF]
  | succ n ih =>
    intro K
    cases K with
    | nil => simp [foldF]
    | cons a K =>
      rw [foldF]
      split
      · split
        · have h1 := ih (K.dropWhile (keyV a))
          have h2 := dropWhile_len (keyV a) K
          simp only [List.length_cons]
          omega
        · simp
      · simp
theorem SortsTo.perm {K K' : List RV} (h : SortsTo K K') : K'.Perm K := by
  haveI : DecidableEq RV := fun a b => Classical.propDecidable (a = b)
  refine List.perm_iff_count.2 fun a => ?_
  rw [← List.count_filter (keyV_self a), h.same, List.count_filter (keyV_self a)]
theorem cmpL_self_le : ∀ (t u : Int), cmpK t u [] [] < 0 → t < u := by
  intro t u h
  unfold cmpK cmpI at h
  simp only [cmpL] at h
  by_cases h1 : t < u
  · exact h1
  · by_cases h2 : u < t
    · simp [h1, h2] at h
    · simp [h1, h2] at h
theorem pickL_nil (D : List ByteArray) : pickL D [] = [] := rfl
/-- The whole in buckets. -/
theorem proj_whole {q : Nat} {g : Int} {Z : List RZ} {I : List Nat} {K' O : List RV} {x : Int} (hg : okGran g) (hI : I.length = 0) (hZ : ∀ z ∈ Z, OkR q z.2 ∧ 0 ≤ z.2.t ∧ z.2.t ≤ 1099511627776) (hs : SortsTo (Z.map fun z => projR g I z.2) K') (hf : foldL K' = (O, x)) :
    O.length ≤ Z.length ∧ (∀ i (h : i + 1 < O.length), ¬ (O[i + 1].t < O[i].t + g)) ∧ ∀ y ∈ O, -1048576 ≤ y.t ∧ y.t ≤ 1099511627776 := by
  obtain rfl : I = [] := List.eq_nil_of_length_eq_zero hI
  have hlen : O.length ≤ Z.length := by
    have h1 := foldF_len K'.length K'
    have h2 := hs.perm.length_eq
    rw [List.length_map] at h2
    have h3 : (foldF K'.length K').1 = O := congrArg Prod.fst hf
    rw [h3] at h1; omega
  have hmem : ∀ a ∈ K', OkR q a ∧ (∃ c, a.t = g * c) ∧ a.dims = [] ∧ -1048576 ≤ a.t ∧ a.t ≤ 1099511627776 := fun a ha => by
    obtain ⟨z, hz, e⟩ := List.mem_map.1 (hs.mem ha)
    obtain ⟨ho, h0, h1⟩ := hZ z hz
    subst e
    have hb := flr_bd (t := z.2.t) hg.1
    have hg1 := hg.1
    have hg2 := hg.2
    refine ⟨⟨ho.lo, ho.hi, ho.len, ho.aggs⟩, ⟨z.2.t / g, ?_⟩, rfl, ?_, ?_⟩
    · show flr z.2.t g = _
      unfold flr
      have := Int.mul_ediv_add_emod z.2.t g
      omega
    · show -1048576 ≤ flr z.2.t g
      omega
    · show flr z.2.t g ≤ _
      omega
  rcases foldL_all (q := q) K'.length K' (Nat.le_refl _) hs.sorted (fun a ha => (hmem a ha).1) with ⟨h1, h2, h3⟩ | ⟨h1, h2, _⟩
  · rw [hf] at h2 h3
    simp only at h2 h3
    have hO : ∀ y ∈ O, (∃ c, y.t = g * c) ∧ y.dims = [] ∧ -1048576 ≤ y.t ∧ y.t ≤ 1099511627776 := fun y hy => by
      obtain ⟨a, ha, e⟩ := h3 y hy
      obtain ⟨e1, e2⟩ := cmpV_zero.1 e
      obtain ⟨_, hc, hd, hb⟩ := hmem a ha
      rw [e1, e2]
      exact ⟨hc, hd, hb⟩
    refine ⟨hlen, fun i h => ?_, fun y hy => (hO y hy).2.2⟩
    have hst : cmpV O[i] O[i + 1] < 0 := List.pairwise_iff_getElem.1 h2.strict i (i + 1) (by omega) h (by omega)
    obtain ⟨⟨c, hc⟩, hd, _⟩ := hO O[i] (List.getElem_mem _)
    obtain ⟨⟨d, hd'⟩, he, _⟩ := hO O[i + 1] (List.getElem_mem _)
    unfold cmpV at hst
    rw [hd, he] at hst
    have hlt := cmpL_self_le _ _ hst
    rw [hc, hd'] at hlt ⊢
    have hcd : c < d := Int.lt_of_mul_lt_mul_left hlt (by have := hg.1; omega)
    have : g * (c + 1) ≤ g * d := Int.mul_le_mul_of_nonneg_left (by omega) (by have := hg.1; omega)
    rw [Int.mul_add] at this
    omega
  · rw [hf] at h2
    simp only at h2
    subst h2
    exact ⟨Nat.zero_le _, (fun i h => by cases h), (fun y hy => by cases hy)⟩
end Go.Proofs.Ytkfcpmmiimpkbaa
namespace Go.Proofs.Ytkfcpmmiimpkbaa
open Go.RowKit Go.Shelf
set_option linter.unusedSimpArgs false
set_option linter.unusedVariables false
theorem proj_same {w w' : World} {L : List ByteArray} {Z : List RZ} {e : Ending} (h : ProjPost w 1 L L Z e w') (hn : namesP L) (hd : ∀ z ∈ Z, z.2.dims.length = L.length) : ∃ A c Y x K', e = .returned (.tuple #[.slice A Y.length c, .int .i64 x]) ∧ SortsTo (Z.map Prod.snd) K' ∧ foldL K' = (Y.map Prod.snd, x) ∧ RowsC w' A Y ∧ Y.length ≤ 9223372036854775807 ∧ Below w.heap.size w w' := by
  rcases h with ⟨hs, _⟩ | ⟨_, hg, _⟩ | ⟨_, _, I, hI, hl, A, n, c, Y, x, K', rfl, rfl, hs, hf, hC, hnc, h9, hb⟩
  · exact absurd (sub_self hn) hs
  · exact absurd (by decide) hg
  · rw [proj_self hI hl hn.2 hd] at hs
    exact ⟨A, c, Y, x, K', rfl, hs, hf, hC, h9, hb⟩
theorem proj_nil {q : Nat} {w w' : World} {g : Int} {L : List ByteArray} {Z : List RZ} {e : Ending} (h : ProjPost w g L [] Z e w') (hZ : ∀ z ∈ Z, OkR q z.2 ∧ 0 ≤ z.2.t ∧ z.2.t ≤ 1099511627776) : ∃ A c Y x, e = .returned (.tuple #[.slice A Y.length c, .int .i64 x]) ∧ RowsC w' A Y ∧ Y.length ≤ Z.length ∧ (x = 0 → okGran g) ∧ (∀ i (h : i + 1 < Y.length), ¬ (Y[i + 1].2.t < Y[i].2.t + g)) ∧ (∀ y ∈ Y, -1048576 ≤ y.2.t ∧ y.2.t ≤ 1099511627776) ∧ Below w.heap.size w w' := by
  rcases h with ⟨hs, _⟩ | ⟨_, hg, rfl, hb⟩ | ⟨_, hg, I, hI, hl, A, n, c, Y, x, K', rfl, rfl, hs, hf, hC, hnc, h9, hb⟩
  · exact absurd (sub_nil L) hs
  · exact ⟨none, 0, [], 111, rfl, ⟨.inl rfl, (fun y hy => by cases hy)⟩, Nat.zero_le _, (fun h => by cases h), (fun i h => by cases h), (fun y hy => by cases hy), hb⟩
  · obtain ⟨h1, h2, h3⟩ := proj_whole hg hl hZ hs hf
    rw [List.length_map] at h1
    refine ⟨A, c, Y, x, rfl, hC, h1, fun _ => hg, fun i h => ?_, fun y hy => h3 _ (List.mem_map.2 ⟨y, hy, rfl⟩), hb⟩
    have := h2 i (by rw [List.length_map]; exact h)
    simpa using this
set_option maxRecDepth 100000 in
set_option maxHeartbeats 16000000 in
theorem same_walk (A B C : Option Addr) (n c m d k cap : Nat) (g : Int) (L M : List ByteArray) (Z : List RZ) (w : World) (hA : Row w A (texts L)) (hB : Row w B (texts M)) (hC : Row w C (cellsR Z)) (hgd : ∀ z ∈ Z, Good0 w z) (hn : n = L.length) (hm : m = M.length) (hk : k = Z.length) (hnc : n ≤ c) (hmd : m ≤ d) (ha : A = none → c = 0) (hb : B = none → d = 0)
    (hL : ∀ s ∈ L, s.size ≤ 9223372036854775807) (hM : ∀ s ∈ M, s.size ≤ 9223372036854775807) (hc2 : c ≤ 9223372036854775807) (hn2 : n ≤ 9223372036854775807) (hm2 : m ≤ 9223372036854775807) (hk2 : k ≤ 9223372036854775807) (hsz : ∀ z ∈ Z, ∀ s ∈ z.2.dims, s.size ≤ 9223372036854775807) :
    Calls Try.prog 4 #[.agg #[.slice A n c, .slice B m d], .slice C k cap, .int .i64 g] w fun e w' => e = .returned (.bool true) ∧ Below w.heap.size w w' := by
  obtain ⟨W1, hW1⟩ : ∃ W1, W1 = w.alloc (.cells #[.slice A n c, .slice B m d] 24) := ⟨_, rfl⟩
  have hb1 : Below w.heap.size w W1 := by rw [hW1]; exact bpush (Below.refl _ _) _
  have HB1 := Lib.hid hb1
  have s0 : W1.cell? ⟨w.heap.size, 0, none⟩ = some (.slice A n c) := by rw [hW1]; exact cell_made rfl rfl
  have s1 : W1.cell? ⟨w.heap.size, 1, none⟩ = some (.slice B m d) := by rw [hW1]; exact cell_made rfl rfl
  have HS01 := Lib.hid (And.intro s0 s1)
  obtain ⟨r, hr⟩ := bool_of (fitsRows L M (Z.map Prod.snd))
  have HR := Lib.hid hr
  have HFT := Lib.hid (fitsrows_any A B C n c m d k cap L M Z W1 (hA.keep (Nat.le_refl _) hb1) (hB.keep (Nat.le_refl _) hb1) (hC.keep (Nat.le_refl _) hb1) (fun z hz => (hgd z hz).keep hb1) hn hm hk hnc hmd ha hb hL hM hn2 hm2 hk2 hsz r hr)
  have HA := Lib.hid (hA.keep (Nat.le_refl _) hb1)
  have HC := Lib.hid (hC.keep (Nat.le_refl _) hb1)
  have HGD := Lib.hid (fun z hz => (hgd z hz).keep hb1)
  have HN := Lib.hid hn
  have HNC := Lib.hid hnc
  have HC2 := Lib.hid hc2
  have HL := Lib.hid hL
  have HK := Lib.hid hk
  have HW1 := Lib.hid hW1
  clear hA hB hC hgd hn hm hk hnc hmd ha hb hL hM hc2 hn2 hm2 hk2 hsz hr hW1 hb1
  go_enter Try.func4, Try.ntmps4
  go_upto_region 1 with fail
  rw [← HW1.out]
  go_upto_region 2 with (go_at_call 6; refine HFT.out.mono ?_; rintro e w1 ⟨rfl, hb⟩)
  have HBW := Lib.hid hb
  clear hb HFT s0 s1
  cases r with
  | false =>
    go_wp2_with (go_at_call 8; refine (alive_any _).mono ?_; rintro e w2 ⟨rfl, hb⟩)
    have HBX := Lib.hid (bthen HB1.out (bthen HBW.out hb))
    clear hb
    go_wp2_with fail
    go_ret
    exact ⟨rfl, HBX.out⟩
  | true =>
  have hft := HR.out.1 rfl
  have hk120 : k ≤ 120 := by have := hft.2.2.1; rw [List.length_map] at this; have := HK.out; omega
  have hn20 : L.length ≤ 1000000 := by have := hft.1.1; omega
  have hm20 : M.length ≤ 1000000 := by have := hft.2.1.1; omega
  have hnm : namesP L := names_left hft.2.2.2.1.2.2.2
  have hro : ∀ z ∈ Z, rowOk L.length M.length z.2.t z.2.count z.2.dims z.2.aggs := fun z hz => hft.2.2.2.2 z.2 (List.mem_map.2 ⟨z, hz, rfl⟩)
  have hq : ∀ z ∈ Z, RowQ M.length L.length z.2 := fun z hz => rowok_q (hro z hz)
  have hqm : ∀ a ∈ Z.map Prod.snd, RowQ M.length L.length a := fun a ha => by obtain ⟨z, hz, rfl⟩ := List.mem_map.1 ha; exact hq z hz
  have hC1 : RowsC W1 C Z := ⟨HC.out, fun z hz => (HGD.out z hz).good (by rw [(hq z hz).dims]; exact hn20) (by rw [(hq z hz).ok.len]; exact hm20)⟩
  have hzz : ∀ z ∈ Z, z.2.dims.length = L.length ∧ 0 ≤ z.2.t ∧ z.2.t ≤ 1099511627776 ∧ 0 ≤ z.2.count ∧ z.2.count ≤ 1048576 := fun z hz => ⟨(hq z hz).dims, (hro z hz).2.2.1, (hro z hz).2.2.2.1, (hq z hz).ok.lo, (hq z hz).ok.hi⟩
  have HCC := Lib.hid (show ∀ W, Below W1.heap.size W1 W → RowsC W C Z from fun W hW => hC1.keep hW)
  have HP1 := Lib.hid (project_any A B C A n c m d k cap n c 1 L L Z w1 (HA.out.keep (Nat.le_refl _) HBW.out) HN.out HNC.out (by have := HN.out; omega) HC2.out (HCC.out _ HBW.out) HK.out (by omega) (HA.out.keep (Nat.le_refl _) HBW.out) HN.out HNC.out (by have := HN.out; omega) HL.out hzz)
  have HSM := Lib.hid (show ∀ e w', ProjPost w1 1 L L Z e w' → _ from fun e w' h => proj_same h hnm (fun z hz => (hzz z hz).1))
  have HP2 := Lib.hid (show ∀ W, Below W1.heap.size W1 W → Calls Try.prog 9 #[.agg #[.slice A n c, .slice B m d], .slice C k cap, .slice none 0 0, .int .i64 g] W (ProjPost W g L [] Z) from fun W hW => project_any A B C none n c m d k cap 0 0 g L [] Z W (HA.out.keep (Nat.le_refl _) hW) HN.out HNC.out (by have := HN.out; omega) HC2.out (HCC.out _ hW) HK.out (by omega) (.inl rfl) rfl (Nat.le_refl _) (by omega) (fun s hs => by cases hs) hzz)
  have HNL := Lib.hid (show ∀ W e w', ProjPost W g L [] Z e w' → _ from fun W e w' h => proj_nil h (fun z hz => ⟨(hq z hz).ok, (hzz z hz).2.1, (hzz z hz).2.2.1⟩))
  have HRF := Lib.hid (show ∀ W, Below W1.heap.size W1 W → Calls Try.prog 18 #[.slice C k cap] W (RefPost W Z) from fun W hW => reffold_any C k cap M.length L.length Z W (HCC.out _ hW) HK.out (by omega) hq)
  have HONE := Lib.hid (show ∀ K', SortsTo (Z.map Prod.snd) K' → foldL K' = refF [] (Z.map Prod.snd) from fun K' h => fold_one (q := M.length) h (fun a ha => (hqm a ha).ok))
  clear hft hro hq hqm hC1 HR hn20 hm20 hnm hzz
  have t0 := cell_on HBW.out HS01.out.1
  have t1 := cell_on HBW.out HS01.out.2
  go_upto_region 5 with (go_at_call 9; refine HP1.out.mono ?_; rintro e w3 h3; obtain ⟨A3, c3, Y3, x3, K3, rfl, hs3, hf3, hC3, h93, hb3⟩ := HSM.out _ _ h3; have HS3 := Lib.hid hs3; have HF3' := Lib.hid hf3; have HY3 := Lib.hid hC3; have HL3 := Lib.hid h93; have HB3 := Lib.hid hb3; clear hs3 hf3 hC3 h93 hb3 h3)
  have HF3 := Lib.hid (HF3'.out.symm.trans (HONE.out K3 HS3.out))
  have HBW3 := Lib.hid (bthen HBW.out HB3.out)
  clear t0 t1 HP1 HSM HONE HF3' HS3
  go_upto_region 6 with (go_at_call 18; refine (HRF.out _ HBW3.out).mono ?_; rintro e w4 ⟨A4, Y4, c4, x4, rfl, hf4, hr4, hc4, hb4⟩; have HF4 := Lib.hid hf4; have HY4 := Lib.hid hr4; have HB4 := Lib.hid hb4; clear hf4 hr4 hc4 hb4)
  have HE := Lib.hid (HF3.out.trans HF4.out)
  have HEX := Lib.hid (show x3 = x4 from congrArg Prod.snd HE.out)
  have HEY := Lib.hid (show Y3.map Prod.snd = Y4.map Prod.snd from congrArg Prod.fst HE.out)
  obtain rfl : x3 = x4 := HEX.out
  have HBW4 := Lib.hid (bthen HBW3.out HB4.out)
  have HL4 := Lib.hid (show Y4.length ≤ 9223372036854775807 by have h1 := congrArg List.length HEY.out; rw [List.length_map, List.length_map] at h1; have := HL3.out; omega)
  have HRS := Lib.hid (refrows_any A3 A4 Y3.length c3 Y4.length c4 (Y3.map Prod.snd) (Y4.map Prod.snd) w4 (HY3.out.keep HB4.out).rowsM HY4.out.rowsM (by rw [List.length_map]) (by rw [List.length_map]) HL3.out HL4.out true (by simp [HEY.out]))
  clear HRF HF3 HF4 HE HEX HEY HY3 HY4
  go_upto_region 7 with (go_at_call 14; refine HRS.out.mono ?_; rintro e w5 ⟨rfl, hb5⟩; have HB5 := Lib.hid (bthen HBW4.out hb5); clear hb5)
  have t0 := cell_on HB5.out HS01.out.1
  have t1 := cell_on HB5.out HS01.out.2
  clear HRS
  go_upto_region 10 with (go_at_call 9; refine (HP2.out _ HB5.out).mono ?_; rintro e w6 h6; obtain ⟨A6, c6, Y6, x6, rfl, hC6, hl6, hx6, hs6, ht6, hb6⟩ := HNL.out _ _ _ h6; have HY6 := Lib.hid hC6; have HL6 := Lib.hid hl6; have HX6 := Lib.hid hx6; have HS6 := Lib.hid hs6; have HT6 := Lib.hid ht6; have HB6 := Lib.hid (bthen HB5.out hb6); clear hC6 hl6 hx6 hs6 ht6 hb6 h6)
  clear t0 t1 HP2 HNL
  by_cases hx0 : x6 = 0
  case neg =>
    go_wp2_with (go_at_call 8; refine (alive_any _).mono ?_; rintro e w7 ⟨rfl, hb⟩; have HB7 := Lib.hid hb; clear hb)
    go_ret
    exact ⟨rfl, bthen HB1.out (bthen HB6.out HB7.out)⟩
  case pos =>
  subst hx0
  have hgr := HX6.out rfl
  have hg1 : 1 ≤ g := hgr.1
  have hg2 : g ≤ 1048576 := hgr.2
  clear hgr
  obtain ⟨n6, hn6⟩ : ∃ n6, n6 = Y6.length := ⟨_, rfl⟩
  have HN6 := Lib.hid hn6
  have hnk : n6 ≤ k := by have := HL6.out; have := HK.out; omega
  rw [← hn6]
  clear hn6
  go_wp2_with fail
  go_loopw [15] (fun v15 wr => ∃ j : Nat, v15 = .int .i64 ((j + 1 : Nat) : Int) ∧ (j = 0 ∨ j + 1 ≤ n6) ∧ Hid (Below w6.heap.size w6 wr)) (fun v15 _ => n6 - (intOf v15).toNat)
  case atStart => exact ⟨0, rfl, .inl rfl, Lib.hid (Below.refl _ _)⟩
  case round =>
    obtain ⟨j, rfl, hj, HBR⟩ := hrel
    by_cases hlt : j + 1 < n6
    case neg =>
      have hki : ¬ (((j + 1 : Nat) : Int) < (n6 : Int)) := by omega
      have hle : (n6 : Int) ≤ (k : Int) := by omega
      clear hlt
      go_wp2_with (go_at_call 8; refine (alive_any _).mono ?_; rintro e w7 ⟨rfl, hb⟩; have HB7 := Lib.hid hb; clear hb)
      go_ret
      exact ⟨by simp [hle], bthen HB1.out (bthen HB6.out (bthen HBR.out HB7.out))⟩
    case pos =>
    have hki : ((j + 1 : Nat) : Int) < (n6 : Int) := by omega
    have hk0 : (0 : Int) ≤ ((j + 1 : Nat) : Int) := by omega
    have hk1 : ((j + 1 : Nat) : Int) - 1 = (j : Int) := by omega
    have hkk : (0 : Int) ≤ (j : Int) := by omega
    have hkn : (j : Int) < (n6 : Int) := by omega
    have hkw : IntKind.i64.wrap (j : Int) = (j : Int) := IntWalk.i64_in _ (by omega)
    have hj1 : j < Y6.length := by have := HN6.out; omega
    have hj2 : j + 1 < Y6.length := by have := HN6.out; omega
    obtain ⟨b6, o6, hA6, x0, xr⟩ := row4 (HY6.out.keep HBR.out).row hj1
    obtain ⟨b7, o7, hA7, y0, yr⟩ := row4 (HY6.out.keep HBR.out).row hj2
    subst hA6
    simp only [Option.some.injEq, Addr.mk.injEq, and_true] at hA7
    obtain ⟨hb67, ho67⟩ := hA7
    subst hb67 ho67
    have hst := HS6.out j hj2
    have hbd := HT6.out _ (List.getElem_mem hj1)
    obtain ⟨t1, ht1⟩ : ∃ t, t = Y6[j].2.t := ⟨_, rfl⟩
    obtain ⟨t2, ht2⟩ : ∃ t, t = Y6[j + 1].2.t := ⟨_, rfl⟩
    rw [← ht1] at x0 hst hbd
    rw [← ht2] at y0 hst
    have hng : ¬ (t2 < t1 + g) := by omega
    have htw : IntKind.i64.wrap (t1 + g) = t1 + g := IntWalk.i64_in _ (by omega)
    obtain ⟨q, hqe⟩ : ∃ q : Nat, q = j + 1 := ⟨_, rfl⟩
    have HJ := Lib.hid hqe
    rw [← hqe] at y0 hki hk0 hk1
    rw [← hqe]
    clear xr yr ht1 ht2 hst hbd hj1 hj2 hqe hlt
    go_upto_region 15 with fail
    refine wp_region_held_drew (S := fun w' => Below wr.heap.size wr w') (by kernel_rfl) (below_drewN (Below.refl _ _) 1) ?_
    intro hHeld
    refine take_want (i := 0) (v := ?v0z) rfl (by kernel_rfl) (by kernel_rfl) (by kernel_rfl) (fun _ _ _ h => h) (by rfl) ?y0z (by assumption) ?r0z
    case y0z => (intro w hSw; go_simp; all_goals with_reducible rfl)
    (try simp only [Act.put, List.setIfInBounds_toArray, List.set_cons_zero, List.set_cons_succ])
    refine take_want (i := 1) (v := ?v1z) rfl (by kernel_rfl) (by kernel_rfl) (by kernel_rfl) (fun _ _ _ h => h) (by rfl) ?y1z (by assumption) ?r1z
    case y1z => (intro w hSw; go_simp; all_goals with_reducible rfl)
    (try simp only [Act.put, List.setIfInBounds_toArray, List.set_cons_zero, List.set_cons_succ])
    refine take_want (i := 2) (v := ?v2z) rfl (by kernel_rfl) (by kernel_rfl) (by kernel_rfl) (fun _ _ _ h => h) (by rfl) ?y2z (by assumption) ?r2z
    case y2z => (intro w hSw; go_simp; all_goals with_reducible rfl)
    (try simp only [Act.put, List.setIfInBounds_toArray, List.set_cons_zero, List.set_cons_succ])
    refine take_want (i := 3) (v := ?v3z) rfl (by kernel_rfl) (by kernel_rfl) (by kernel_rfl) (fun _ _ _ h => h) (by rfl) ?y3z (by assumption) ?r3z
    case y3z => (intro w hSw; go_simp; all_goals with_reducible rfl)
    (try simp only [Act.put, List.setIfInBounds_toArray, List.set_cons_zero, List.set_cons_succ])
    refine take_want (i := 4) (v := ?v4z) rfl (by kernel_rfl) (by kernel_rfl) (by kernel_rfl) (fun _ _ _ h => h) (by rfl) ?y4z (by assumption) ?r4z
    case y4z => (intro w hSw; have q0 := cell_on hSw y0; go_simp; all_goals with_reducible rfl)
    (try simp only [Act.put, List.setIfInBounds_toArray, List.set_cons_zero, List.set_cons_succ])
    refine take_want (i := 5) (v := ?v5z) rfl (by kernel_rfl) (by kernel_rfl) (by kernel_rfl) (fun _ _ _ h => h) (by rfl) ?y5z (by assumption) ?r5z
    case y5z => (intro w hSw; go_simp; all_goals with_reducible rfl)
    (try simp only [Act.put, List.setIfInBounds_toArray, List.set_cons_zero, List.set_cons_succ])
    refine take_want (i := 6) (v := ?v6z) rfl (by kernel_rfl) (by kernel_rfl) (by kernel_rfl) (fun _ _ _ h => h) (by rfl) ?y6z (by assumption) ?r6z
    case y6z => (intro w hSw; go_simp; all_goals with_reducible rfl)
    (try simp only [Act.put, List.setIfInBounds_toArray, List.set_cons_zero, List.set_cons_succ])
    refine take_want (i := 7) (v := (.int .i64 (j : Int))) rfl (by kernel_rfl) (by kernel_rfl) (by kernel_rfl) (fun _ _ _ h => h) (by rfl) ?y7z (by assumption) ?r7z
    case y7z => (intro w hSw; go_simp; try rw [hkw])
    (try simp only [Act.put, List.setIfInBounds_toArray, List.set_cons_zero, List.set_cons_succ])
    refine take_want (i := 8) (v := ?v8z) rfl (by kernel_rfl) (by kernel_rfl) (by kernel_rfl) (fun _ _ _ h => h) (by rfl) ?y8z (by assumption) ?r8z
    case y8z => (intro w hSw; go_simp; all_goals with_reducible rfl)
    (try simp only [Act.put, List.setIfInBounds_toArray, List.set_cons_zero, List.set_cons_succ])
    refine take_want (i := 9) (v := ?v9z) rfl (by kernel_rfl) (by kernel_rfl) (by kernel_rfl) (fun _ _ _ h => h) (by rfl) ?y9z (by assumption) ?r9z
    case y9z => (intro w hSw; go_simp; all_goals with_reducible rfl)
    (try simp only [Act.put, List.setIfInBounds_toArray, List.set_cons_zero, List.set_cons_succ])
    refine take_want (i := 10) (v := ?v10z) rfl (by kernel_rfl) (by kernel_rfl) (by kernel_rfl) (fun _ _ _ h => h) (by rfl) ?y10z (by assumption) ?r10z
    case y10z => (intro w hSw; have q0 := cell_on hSw x0; go_simp; all_goals with_reducible rfl)
    (try simp only [Act.put, List.setIfInBounds_toArray, List.set_cons_zero, List.set_cons_succ])
    refine take_want (i := 11) (v := ?v11z) rfl (by kernel_rfl) (by kernel_rfl) (by kernel_rfl) (fun _ _ _ h => h) (by rfl) ?y11z (by assumption) ?r11z
    case y11z => (intro w hSw; go_simp; all_goals with_reducible rfl)
    (try simp only [Act.put, List.setIfInBounds_toArray, List.set_cons_zero, List.set_cons_succ])
    refine take_want (i := 12) (v := (.int .i64 (t1 + g))) rfl (by kernel_rfl) (by kernel_rfl) (by kernel_rfl) (fun _ _ _ h => h) (by rfl) ?y12z (by assumption) ?r12z
    case y12z => (intro w hSw; go_simp; try rw [htw])
    (try simp only [Act.put, List.setIfInBounds_toArray, List.set_cons_zero, List.set_cons_succ])
    refine take_want (i := 13) (v := (.bool false)) rfl (by kernel_rfl) (by kernel_rfl) (by kernel_rfl) (fun _ _ _ h => h) (by rfl) ?y13z (by assumption) ?r13z
    case y13z => (intro w hSw; go_simp; try simp [hng])
    (try simp only [Act.put, List.setIfInBounds_toArray, List.set_cons_zero, List.set_cons_succ])
    refine wpAnyH_done (by kernel_rfl) ?_ _
    have HBB := Lib.hid (HBR.out.trans (hHeld.mono HBR.out.size))
    go_wp2_with fail
    go_roundw
    case rel => exact ⟨j + 1, by rw [HJ.out]; go_num, .inr (by have := HJ.out; omega), HBB⟩
    case measure => simp [intOf]; omega
end Go.Proofs.Ytkfcpmmiimpkbaa
