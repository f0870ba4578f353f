/- The document's Lists (10). -/
import Derived.Test.YtbccjkjibffbkaaHV
import Derived.Test.YtbccjkjibffbkaaSM
namespace Go.Proofs.Ytbccjkjibffbkaa
open Go.RowKit Go.Shelf
set_option linter.unusedSimpArgs false
set_option linter.unusedVariables false
def RefLPost (w : World) (L : List Le) (e : Ending) (w' : World) : Prop := ∃ B O c x, e = .returned (.tuple #[.slice B O.length c, .int .i64 x]) ∧ listsR L = (O.map Prod.snd, x) ∧ RowsC w' B O ∧ O.length ≤ c ∧ Below w.heap.size w w'
/-- Is one of the lists sorted, the document's answer. -/
theorem refsrt_one {q dq : Nat} {x : Le} {w : World} (h : LeOk w x) (hq : ∀ z ∈ x.Z, RowQ q dq z.2) : Calls Try.prog 14 #[.slice x.A x.n x.c] w fun e w' => e = .returned (.bool (srtB x.Z)) ∧ Below w.heap.size w w' :=
  refsorted_any x.A x.n x.c _ w h.rows.rowsM (by rw [List.length_map]; exact h.len) (Nat.le_trans h.cap h.max) (srtB x.Z) (by
    rw [srtB_iff]
    have hd : ∀ i (hi : i < (x.Z.map Prod.snd).length), ((x.Z.map Prod.snd)[i]).dims.length = dq := fun i hi => by
      rw [List.getElem_map]
      exact (hq _ (List.getElem_mem _)).dims
    refine ⟨fun hs i hi => ?_, fun hs i hi => ?_⟩
    · rw [lessK_cmpK _ _ _ _ ((hd i (by omega)).trans (hd (i + 1) hi).symm), decide_eq_true_iff]
      exact hs i hi
    · have := hs i hi
      rw [lessK_cmpK _ _ _ _ ((hd i (by omega)).trans (hd (i + 1) hi).symm), decide_eq_true_iff] at this
      exact this)
theorem flat_take {L : List Le} {k : Nat} (h : k < L.length) : ((L.take (k + 1)).map Le.Z).flatten = ((L.take k).map Le.Z).flatten ++ L[k].Z := by
  rw [take_snoc L k h, List.map_append, List.flatten_append]; simp
theorem flat_len {L : List Le} {k : Nat} : ((L.take k).map Le.Z).flatten.length ≤ (L.map Le.Z).flatten.length := by
  have e : (L.map Le.Z).flatten = ((L.take k).map Le.Z).flatten ++ ((L.drop k).map Le.Z).flatten := by
    rw [← List.flatten_append, ← List.map_append, List.take_append_drop]
  rw [e, List.length_append]; omega
theorem flat_of {L : List Le} {k : Nat} {z : RZ} (h : z ∈ ((L.take k).map Le.Z).flatten) : z ∈ (L.map Le.Z).flatten := by
  obtain ⟨x, hx, hz⟩ := flat_mem h
  exact List.mem_flatten.2 ⟨x.Z, List.mem_map.2 ⟨x, List.mem_of_mem_take hx, rfl⟩, hz⟩
theorem flat_at {L : List Le} {x : Le} (h : x ∈ L) {z : RZ} (hz : z ∈ x.Z) : z ∈ (L.map Le.Z).flatten := List.mem_flatten.2 ⟨x.Z, List.mem_map.2 ⟨x, h, rfl⟩, hz⟩
set_option maxRecDepth 100000 in
set_option maxHeartbeats 16000000 in
theorem reflists_any (q dq : Nat) (A : Option Addr) (n c : Nat) (L : List Le) (w : World) (hL : LsIn w A L) (hn : n = L.length) (hq : ∀ z ∈ (L.map Le.Z).flatten, RowQ q dq z.2) (ht : (L.map Le.Z).flatten.length ≤ 1000000) :
    Calls Try.prog 10 #[.slice A n c] w (RefLPost w L) := by
  have hn9 : n ≤ 2000000 := by have := hL.few; omega
  have HIN := Lib.hid hL
  have HN := Lib.hid hn
  have HQ := Lib.hid hq
  have HT := Lib.hid ht
  clear hL hn hq ht
  go_enter Try.func10, Try.ntmps10
  go_wp2_with fail
  go_loopw [4, 5] (fun v4 v5 wr => ∃ (i m : Nat) (v : Value), v = v4 ∧ v5 = .int .i64 i ∧ i ≤ n ∧ m ≤ 1000000 ∧ Hid (m = ((L.take i).map Le.Z).flatten.length) ∧ Hid (Below w.heap.size w wr) ∧ Hid (wr.ownsRow w.heap.size 39 4 v m (cellsR ((L.take i).map Le.Z).flatten)) ∧ Hid (allS (L.take i) = true)) (fun _ v5 _ => n - (intOf v5).toNat)
  case atStart => exact ⟨0, 0, _, rfl, rfl, Nat.zero_le _, Nat.zero_le _, Lib.hid rfl, Lib.hid (Below.refl _ _), Lib.hid (World.ownsRow_nil _ _ _ _), Lib.hid rfl⟩
  case round =>
    obtain ⟨i, m, v, rfl, rfl, hin, hm9, HM, HB, HO, HA⟩ := hrel
    obtain ⟨wo, rfl⟩ : ∃ wo : World, wo = wr := ⟨_, rfl⟩
    by_cases hlt : i < n
    case neg =>
      have hki : ¬ ((i : Int) < (n : Int)) := by omega
      have hE : L.take i = L := List.take_of_length_le (by have := HN.out; omega)
      have ho := HO.out
      rw [HM.out, hE] at ho
      obtain ⟨_, vA, vc, hv, hvr, hvc, hvm, hvn⟩ := own_sliceR ho
      have HF := Lib.hid (reffold_any vA m vc q dq (L.map Le.Z).flatten wo ⟨hvr, fun z hz => by
        obtain ⟨x, hx, hz⟩ := flat_mem hz
        exact ((HIN.out.ok x hx).rows.good z hz).keep HB.out⟩ (by rw [HM.out, hE]) (by omega) HQ.out)
      have hml : (L.map Le.Z).flatten.length = m := by rw [HM.out, hE]
      rw [hml] at hv
      subst hv
      have HS := Lib.hid (show allS L = true by rw [← hE]; exact HA.out)
      clear hlt hE ho hvr hvc hvm hvn hml
      go_wp2_with (go_at_call 21; refine HF.out.mono ?_; rintro e w2 ⟨B, O, cO, x, rfl, h1, h2, h3, h4⟩)
      have HH := Lib.hid (show listsR L = (O.map Prod.snd, x) by unfold listsR; rw [if_pos HS.out]; exact h1)
      have HG := Lib.hid (And.intro h2 (And.intro h3 h4))
      clear h1 h2 h3 h4
      go_wp2_with fail
      go_ret2
      exact ⟨B, O, cO, x, rfl, HH.out, HG.out.1, HG.out.2.1, HB.out.trans (HG.out.2.2.mono HB.out.size)⟩
    case pos =>
    have hkz0 : (0 : Int) ≤ (i : Int) := by omega
    have hkz1 : (i : Int) < (n : Int) := by omega
    have hkz : i < L.length := by have := HN.out; omega
    obtain ⟨b, off, hAe, c0, hok⟩ := (HIN.out.keep HB.out).at hkz
    obtain ⟨x, hx⟩ : ∃ x, x = L[i] := ⟨_, rfl⟩
    have hx9 : x.Z.length + m ≤ 1000000 := by
      have h1 := flat_len (L := L) (k := i + 1)
      rw [flat_take hkz, List.length_append, ← HM.out, ← hx] at h1
      have := HT.out; omega
    have HX := Lib.hid (show x ∈ L by rw [hx]; exact List.getElem_mem hkz)
    rw [← hx] at c0 hok
    have HTK := Lib.hid (show allS (L.take (i + 1)) = (allS (L.take i) && srtB x.Z) by
      unfold allS
      rw [take_snoc _ _ hkz, List.all_append, hx]; simp)
    have HMS := Lib.hid (show ((L.take (i + 1)).map Le.Z).flatten = ((L.take i).map Le.Z).flatten ++ x.Z by rw [flat_take hkz, hx])
    have HC := Lib.hid (refsrt_one (q := q) (dq := dq) hok (fun z hz => HQ.out z (flat_at (by rw [hx]; exact List.getElem_mem hkz) hz)))
    have HOK := Lib.hid hok
    have HC0 := Lib.hid c0
    obtain ⟨s, hs⟩ : ∃ s, s = srtB x.Z := ⟨_, rfl⟩
    rw [← hs] at HTK HC
    have HSB := Lib.hid hs
    subst hAe
    clear hlt hx hok hs hkz
    cases s
    · go_wp2_with (go_at_call 14; refine HC.out.mono ?_; rintro e w2 ⟨rfl, hb⟩; have HB2 := Lib.hid hb; clear hb c0; have c0 := cell_later HB2.out HC0.out)
      go_ret2
      have hno : ¬ allS L = true := fun h => by
        have h1 := (allS_iff L).1 h x HX.out
        have h2 := (srtB_iff _).2 h1
        rw [← HSB.out] at h2; cases h2
      exact ⟨none, [], 0, 131, rfl, if_neg hno, ⟨.inl rfl, fun z hz => absurd hz List.not_mem_nil⟩, Nat.le_refl _, HB.out.trans (HB2.out.mono HB.out.size)⟩
    · go_upto_region 8 with (go_at_call 14; refine HC.out.mono ?_; rintro e w2 ⟨rfl, hb⟩; have HB2 := Lib.hid hb; clear hb c0; have c0 := cell_later HB2.out HC0.out)
      have HB3 := Lib.hid (HB.out.trans (HB2.out.mono HB.out.size))
      have HO2 := Lib.hid (own_below HO.out HB2.out)
      have HXR := Lib.hid (HOK.out.rows.row.keep (Nat.le_refl _) HB2.out)
      go_wp2_with (at_builtin; refine wpList_append_rows rfl _ _ rfl w.heap.size v m (cellsR ((L.take i).map Le.Z).flatten) rfl x.A x.n x.c x.Z rfl HO2.out HXR.out HOK.out.len HOK.out.cap HOK.out.nil (by have := HOK.out.len; omega) HB3.out.size ?_; intro v3 w3 ho3 hg3)
      have HO3 := Lib.hid (show w3.ownsRow w.heap.size 39 4 v3 (m + x.n) (cellsR ((L.take (i + 1)).map Le.Z).flatten) by rw [HMS.out, cellsR_app]; exact ho3)
      have HB4 := Lib.hid (HB3.out.trans (grown_below4 HO2.out hg3 HB3.out.size))
      clear ho3 hg3 c0
      go_wp2_with fail
      go_roundw
      case rel => exact ⟨i + 1, m + x.n, v3, rfl, by go_num, by omega, by have := HOK.out.len; omega, Lib.hid (by rw [HMS.out, List.length_append, ← HM.out, HOK.out.len]), HB4, HO3, Lib.hid (by rw [HTK.out, HA.out]; rfl)⟩
      case measure => simp [intOf]; omega
end Go.Proofs.Ytbccjkjibffbkaa
