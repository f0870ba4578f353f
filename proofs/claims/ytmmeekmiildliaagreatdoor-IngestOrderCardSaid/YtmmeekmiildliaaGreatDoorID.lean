/- A row's key as a text (45). -/
import Derived.Test.YtmmeekmiildliaaGreatDoorIA
import Derived.Test.YtmmeekmiildliaaGreatDoorIS
import Derived.Test.YtmmeekmiildliaaGreatDoorRD
import Derived.Lib.AppendIntMem
import Derived.Lib.ItoaLen
namespace Go.Proofs.YtmmeekmiildliaaGreatDoor
open Go.RowKit Go.Sort
set_option linter.unusedSimpArgs false
set_option linter.unusedVariables false
abbrev Tab (w : World) : Prop := Lib.TabIs Tryz.prog w "internal/strconv.uint64pow10" .u64 Lib.pow10Tab
theorem Tab.keep {w w' : World} (h : Tab w) (hb : Below w.heap.size w w') : Tab w' := (Lib.tabBelow_of_tabIs h) w' hb
theorem join_len : ∀ (L : List ByteArray), (∀ s ∈ L, s.size ≤ 24) → (Lib.join (L.map (·.data.toList)) [10]).length ≤ 25 * L.length
  | [], _ => by simp [Lib.join_nil]
  | [s], h => by
    have := h s List.mem_cons_self
    rw [List.map_cons, List.map_nil, Lib.join_one]
    simp; omega
  | s :: u :: L, h => by
    have h1 := h s List.mem_cons_self
    have h2 := join_len (u :: L) (fun x hx => h x (List.mem_cons_of_mem _ hx))
    rw [List.map_cons, List.map_cons, join_two]
    rw [List.map_cons] at h2
    simp only [List.length_append, List.length_cons, Array.length_toList] at h2 ⊢
    have : s.data.size = s.size := rfl
    omega
theorem below_grow {w : World} (k : Nat) (os : Array Obj) : Below w.heap.size w (Sort.grow (w.drewN k) os) := by
  refine ⟨rfl, rfl, rfl, by simp [Sort.grow], fun i hi => ?_⟩
  simp only [Sort.grow]
  exact Array.getElem?_append_left hi
set_option maxRecDepth 100000 in
set_option maxHeartbeats 8000000 in
theorem key_any (z : RZ) (w : World) (hz : Good w z) (hd : 1 ≤ z.2.dims.length) (hdd : z.2.dims.length ≤ 1000) (ht : 0 ≤ z.2.t ∧ z.2.t ≤ 9223372036854775807) (hv : ∀ s ∈ z.2.dims, s.size ≤ 24) (hT : Tab w) :
    Calls Tryz.prog 45 #[.agg (encR z).toArray] w fun e w' => e = .returned (.string ⟨(keyB z.2).toArray⟩) ∧ Below w.heap.size w w' := by
  obtain ⟨⟨D, dn, dc, G, gn, gc⟩, ⟨t, L, u, X⟩⟩ := z
  simp only [encR_eq] at *
  obtain ⟨W1, hW1⟩ : ∃ W1, W1 = w.alloc (.cells #[.int .i64 t, .slice D dn dc, .int .i64 u, .slice G gn gc] 59) := ⟨_, rfl⟩
  have hb1 : Below w.heap.size w W1 := by rw [hW1]; exact bpush (Below.refl _ _) _
  have HRD := Lib.hid hz.rd
  have hdn : dn = L.length := hz.nd
  have hdc : dn ≤ dc := hz.cd
  obtain ⟨bd, od, rfl⟩ : ∃ b o, D = some ⟨b, o, none⟩ := by
    rcases hz.rd with h0 | ⟨b, off, e, _⟩
    · exfalso; simp [texts] at h0; rw [h0] at hd; simp at hd
    · exact ⟨b, off, e⟩
  have HCEL := Lib.hid (fun W (hW : Below W1.heap.size W1 W) => show W.cell? ⟨w.heap.size, 0, none⟩ = some (.int .i64 t) ∧ W.cell? ⟨w.heap.size, 1, none⟩ = some (.slice (some ⟨bd, od, none⟩) dn dc) from by
    constructor
    · exact cell_on hW (by rw [hW1]; exact cell_made rfl rfl)
    · exact cell_on hW (by rw [hW1]; exact cell_made rfl rfl))
  obtain ⟨sI, hsI⟩ : ∃ s : ByteArray, s = ⟨(Lib.itoa t).toArray⟩ := ⟨_, rfl⟩
  obtain ⟨sJ, hsJ⟩ : ∃ s : ByteArray, s = ⟨(Lib.join (L.map (·.data.toList)) (⟨#[10]⟩ : ByteArray).data.toList).toArray⟩ := ⟨_, rfl⟩
  have hsI1 : sI.size ≤ 21 := by rw [hsI]; exact Lib.itoa_length_le t (by omega) ht.2
  have hsJ1 : sJ.size ≤ 25000 := by rw [hsJ]; have h := join_len L hv; show (Lib.join (L.map (·.data.toList)) [10]).length ≤ 25000; omega
  have HIT := Lib.hid (fun W (hW : Below W1.heap.size W1 W) => show Calls Tryz.prog 78 #[.int .i64 t] W (fun e w' => e = .returned (.string sI) ∧ Below W1.heap.size W1 w') from
    (Tryz.strconv_Itoa t (by omega) ht.2 W (hT.keep (bthen hb1 hW))).mono fun e w' h => by
      obtain ⟨he, k, os, hw⟩ := h
      refine ⟨by rw [hsI]; exact he, ?_⟩
      rw [hw]
      exact hW.trans ((below_grow (w := W) k os).mono hW.size))
  have HJN := Lib.hid (fun W (hW : Below W1.heap.size W1 W) => Tryz.strings_Join bd od dc L ⟨#[10]⟩ W
    (fun j x hx => by
      have hrow := HRD.out.keep (Nat.le_refl _) (bthen hb1 hW)
      rcases hrow with h0 | ⟨b, off, e, hc⟩
      · simp [texts] at h0; rw [h0] at hx; simp at hx
      · cases e
        exact hc j _ (by unfold texts; rw [List.getElem?_map, hx]; rfl))
    (by
      have hrow := HRD.out.keep (Nat.le_refl _) (bthen hb1 hW)
      rcases hrow with h0 | ⟨b, off, e, hc⟩
      · simp [texts] at h0; rw [h0] at hd; simp at hd
      · cases e
        have := hc 0 (.string L[0]) (by unfold texts; rw [List.getElem?_map, List.getElem?_eq_getElem hd]; rfl)
        exact lt_of_cell this)
    (by omega) (by omega) (by have := join_len L hv; have e : (⟨#[10]⟩ : ByteArray).data.toList = [10] := rfl; rw [e]; omega))
  rw [← hdn, ← hsJ] at HJN
  have HSI := Lib.hid hsI
  have HSJ := Lib.hid hsJ
  have HB1 := Lib.hid hb1
  have HW1 := Lib.hid hW1
  clear hz hv hT hb1 hW1 hdn hdc hsI hsJ
  have hc1 : ¬ (9223372036854775807 < sI.size + 1) := by omega
  have hc2 : ¬ (9223372036854775807 < sI.size + 1 + sJ.size) := by omega
  go_enter Tryz.func45, Tryz.ntmps45
  go_upto_region 1 with fail
  rw [← HW1.out]
  go_region_held3 (fun W => (W.cell? ⟨w.heap.size, 0, none⟩ = some (.int .i64 t) ∧ W.cell? ⟨w.heap.size, 1, none⟩ = some (.slice (some ⟨bd, od, none⟩) dn dc)) ∧ Below W1.heap.size W1 W)
    (first
      | exact ⟨HCEL.out _ (below_drewN (Below.refl _ _) 1), below_drewN (Below.refl _ _) 1⟩
      | exact ⟨HCEL.out _ hz1, hz1⟩
      | exact ⟨HCEL.out _ hz2, hz2⟩)
    (first
      | (go_at_call 78
         refine (HIT.out _ (below_drewN (Below.refl _ _) 1)).mono ?_
         rintro e x1 ⟨rfl, hz1⟩)
      | (go_at_call 79
         refine (HJN.out _ hz1).mono ?_
         rintro e x2 ⟨rfl, hb⟩
         have hz2 : Below W1.heap.size W1 x2 := hz1.trans (hb.mono hz1.size)))
  have HZ2 := Lib.hid (bthen HB1.out hz2)
  go_wp2_with fail
  go_ret
  refine ⟨?_, HZ2.out⟩
  rw [HSI.out, HSJ.out]
  refine congrArg (fun s => Ending.returned (.string s)) ?_
  apply ByteArray.ext
  simp [keyB, ByteArray.data_append]
end Go.Proofs.YtmmeekmiildliaaGreatDoor
