/- MergeParts (5). -/
import Derived.Test.YtbccjkjibffbkaaKP
namespace Go.Proofs.Ytbccjkjibffbkaa
open Go.RowKit Go.Shelf
set_option linter.unusedSimpArgs false
set_option linter.unusedVariables false
/-- The rows dealt out by turns. -/
structure Deal (w : World) (Z : List RZ) (i : Nat) (vo ve : Value) (O E : List RZ) (W : World) : Prop where
  bel : Below w.heap.size w W
  oo : W.ownsRow w.heap.size 39 4 vo O.length (cellsR O)
  oe : W.ownsRow w.heap.size 39 4 ve E.length (cellsR E)
  ap : vo.ownBlock = none ∨ vo.ownBlock ≠ ve.ownBlock
  ap2 : ve.ownBlock = none ∨ ve.ownBlock ≠ vo.ownBlock
  so : O.Sublist (Z.take i)
  se : E.Sublist (Z.take i)
  perm : (O ++ E).Perm (Z.take i)
theorem Deal.start {w W : World} {Z : List RZ} (hb : Below w.heap.size w W) : Deal w Z 0 (.slice none 0 0) (.slice none 0 0) [] [] W :=
  ⟨hb, World.ownsRow_nil _ _ _ _, World.ownsRow_nil _ _ _ _, .inl rfl, .inl rfl, List.Sublist.refl _, List.Sublist.refl _, List.Perm.refl _⟩
theorem Deal.keep {w W W' : World} {Z : List RZ} {i : Nat} {vo ve : Value} {O E : List RZ} (h : Deal w Z i vo ve O E W) (hb : Below W.heap.size W W') : Deal w Z i vo ve O E W' :=
  ⟨h.bel.trans (hb.mono h.bel.size), own_below h.oo hb, own_below h.oe hb, h.ap, h.ap2, h.so, h.se, h.perm⟩
theorem Deal.even {w W W2 : World} {Z : List RZ} {i : Nat} {vo ve v' : Value} {O E : List RZ} (h : Deal w Z i vo ve O E W) (hi : i < Z.length) (ho : W2.ownsRow w.heap.size 39 4 v' (E.length + 1) (cellsR E ++ encR Z[i])) (hg : W.grownBy W2 ve.ownBlock) (hd : v'.ownBlock = ve.ownBlock ∨ v'.ownBlock = some W.heap.size) : Deal w Z (i + 1) vo v' O (E ++ [Z[i]]) W2 := by
  have hne : v'.ownBlock = none ∨ v'.ownBlock ≠ vo.ownBlock := by
    rcases hd with e | e
    · rw [e]; exact h.ap2
    · rw [e]; exact .inr fun e2 => own_fresh h.oo e2.symm
  have hne2 : vo.ownBlock = none ∨ vo.ownBlock ≠ v'.ownBlock := by
    rcases hd with e | e
    · rw [e]; exact h.ap
    · rw [e]; exact .inr fun e2 => own_fresh h.oo e2
  refine ⟨h.bel.trans (grown_below4 h.oe hg h.bel.size), h.oo.kept hg h.ap, by rw [List.length_append, cellsR_app, cellsR_one]; exact ho, hne2, hne, ?_, ?_, ?_⟩
  · rw [take_snoc Z i hi]; exact h.so.trans (List.sublist_append_left _ _)
  · rw [take_snoc Z i hi]; exact h.se.append (List.Sublist.refl _)
  · rw [take_snoc Z i hi, ← List.append_assoc]; exact h.perm.append_right _
theorem Deal.odd {w W W2 : World} {Z : List RZ} {i : Nat} {vo ve v' : Value} {O E : List RZ} (h : Deal w Z i vo ve O E W) (hi : i < Z.length) (ho : W2.ownsRow w.heap.size 39 4 v' (O.length + 1) (cellsR O ++ encR Z[i])) (hg : W.grownBy W2 vo.ownBlock) (hd : v'.ownBlock = vo.ownBlock ∨ v'.ownBlock = some W.heap.size) : Deal w Z (i + 1) v' ve (O ++ [Z[i]]) E W2 := by
  have hne : v'.ownBlock = none ∨ v'.ownBlock ≠ ve.ownBlock := by
    rcases hd with e | e
    · rw [e]; exact h.ap
    · rw [e]; exact .inr fun e2 => own_fresh h.oe e2.symm
  have hne2 : ve.ownBlock = none ∨ ve.ownBlock ≠ v'.ownBlock := by
    rcases hd with e | e
    · rw [e]; exact h.ap2
    · rw [e]; exact .inr fun e2 => own_fresh h.oe e2
  refine ⟨h.bel.trans (grown_below4 h.oo hg h.bel.size), by rw [List.length_append, cellsR_app, cellsR_one]; exact ho, h.oe.kept hg h.ap2, hne, hne2, ?_, ?_, ?_⟩
  · rw [take_snoc Z i hi]; exact h.so.append (List.Sublist.refl _)
  · rw [take_snoc Z i hi]; exact h.se.trans (List.sublist_append_left _ _)
  · rw [take_snoc Z i hi]
    refine List.Perm.trans ?_ (h.perm.append_right [Z[i]])
    rw [List.append_assoc, List.append_assoc]
    exact (List.perm_append_comm (l₁ := [Z[i]]) (l₂ := E)).append_left O
/-- A list made of own rows. -/
theorem le_own {w W : World} {v : Value} {Y : List RZ} (ho : W.ownsRow w.heap.size 39 4 v Y.length (cellsR Y)) (hb : Below w.heap.size w W) (hg : ∀ z ∈ Y, Good w z) : ∃ x : Le, v = encE x ∧ LeOk W x ∧ x.Z = Y := by
  obtain ⟨_, A, c, rfl, hr, hc, hm, hn⟩ := own_sliceR ho
  exact ⟨⟨A, Y.length, c, Y⟩, rfl, ⟨⟨hr, fun z hz => (hg z hz).keep hb⟩, rfl, hc, by unfold maxLen at hm; exact hm, hn⟩, rfl⟩
theorem LeOk.nilL (w : World) : LeOk w ⟨none, 0, 0, []⟩ := ⟨⟨.inl rfl, fun z hz => absurd hz List.not_mem_nil⟩, rfl, Nat.le_refl _, (by show 0 ≤ 9223372036854775807; omega), fun _ => rfl⟩
/-- A slice of a few lists, just built. -/
theorem ls_built {w : World} {L : List Le} (hl : ∀ x ∈ L, LeOk w x) (h : L.length ≤ 1000) (hn : (L.map encE) ≠ []) : LsIn (w.alloc (.cells (L.map encE).toArray 28)) (some ⟨w.heap.size, 0, none⟩) L :=
  ⟨Row.made rfl rfl, fun x hx => (hl x hx).keep (bpush (Below.refl _ _) _), by omega⟩
set_option maxRecDepth 100000 in
set_option maxHeartbeats 16000000 in
theorem parts_walk (A B C : Option Addr) (n c m d k cap : Nat) (at_ : Int) (N M : List ByteArray) (Z : List RZ) (w : World) (hs : Sch w A B n c m d N M) (hL : Le0 w ⟨C, k, cap, Z⟩) :
    Calls Try.prog 5 #[.agg #[.slice A n c, .slice B m d], .slice C k cap, .int .i64 at_] w fun e w' => e = .returned (.bool true) ∧ Below w.heap.size w w' := by
  obtain ⟨W1, hW1⟩ : ∃ W1, W1 = w.alloc (.cells #[.slice A n c, .slice B m d] 24) := ⟨_, rfl⟩
  have hb1 : Below w.heap.size w W1 := by rw [hW1]; exact bpush (Below.refl _ _) _
  have s0 : W1.cell? ⟨w.heap.size, 0, none⟩ = some (.slice A n c) := by rw [hW1]; exact cell_made rfl rfl
  have s1 : W1.cell? ⟨w.heap.size, 1, none⟩ = some (.slice B m d) := by rw [hW1]; exact cell_made rfl rfl
  obtain ⟨r, hr⟩ := bool_of (fitsRows N M (Z.map Prod.snd))
  obtain ⟨r2, hr2⟩ := bool_of (∀ i (h : i + 1 < (Z.map Prod.snd).length), lessK ((Z.map Prod.snd)[i]).t ((Z.map Prod.snd)[i + 1]).t ((Z.map Prod.snd)[i]).dims ((Z.map Prod.snd)[i + 1]).dims = true)
  have HFT := Lib.hid (fits_row (hs.keep hb1) (hL.keep hb1) r hr)
  have HSR := Lib.hid (fun (W : World) (h : Below W1.heap.size W1 W) => refsorted_any C k cap (Z.map Prod.snd) W (rowsM0 ((hL.keep hb1).keep h).row ((hL.keep hb1).keep h).good) (by rw [List.length_map]; exact hL.len) (Nat.le_trans hL.cap hL.max) r2 hr2)
  have HB1 := Lib.hid hb1
  have HLE := Lib.hid (hL.keep hb1)
  have HR := Lib.hid hr
  have HR2 := Lib.hid hr2
  have HW1 := Lib.hid hW1
  obtain ⟨sb, hsb⟩ : ∃ sb, sb = w.heap.size := ⟨_, rfl⟩
  have HSB := Lib.hid hsb
  have HAL := Lib.hid (fun W => alive_any W)
  by_cases hok : r = true ∧ r2 = true ∧ 0 ≤ at_ ∧ at_ ≤ k
  case neg =>
    clear hs hL hr hr2 hW1 hb1 hsb
    go_enter Try.func5, Try.ntmps5
    go_upto_region 1 with fail
    rw [← HW1.out, ← HSB.out]
    rw [← HSB.out] at s0 s1
    go_upto_region 3 with (first | (go_at_call 15; refine HFT.out.mono ?_; rintro e w2 ⟨rfl, hb⟩; have HB2 := Lib.hid hb; clear hb) | (go_at_call 14; refine (HSR.out _ HB2.out).mono ?_; rintro e w3 ⟨rfl, hb⟩; have HB3 := Lib.hid hb; clear hb))
    have HBE := Lib.hid (show Below w.heap.size w w3 from HB1.out.trans ((bthen HB2.out HB3.out).mono HB1.out.size))
    have hz : r = false ∨ (r = true ∧ r2 = false) ∨ (r = true ∧ r2 = true ∧ at_ < 0) ∨ (r = true ∧ r2 = true ∧ ¬ at_ < 0 ∧ (k : Int) < at_) := by
      cases r <;> cases r2 <;> simp at hok ⊢
      by_cases h : at_ < 0
      · exact .inl h
      · exact .inr ⟨by omega, hok (by omega)⟩
    rcases hz with rfl | ⟨rfl, rfl⟩ | ⟨rfl, rfl, hz⟩ | ⟨rfl, rfl, hz, hz2⟩ <;> (
      clear hok
      go_wp2_with (go_at_call 8; refine (HAL.out _).mono ?_; rintro e w4 ⟨rfl, hb⟩; have HB4 := Lib.hid hb; clear hb)
      go_ret
      exact ⟨rfl, bthen HBE.out HB4.out⟩)
  case pos =>
    obtain ⟨rfl, rfl, h0, h1⟩ := hok
    obtain ⟨p, rfl⟩ : ∃ p : Nat, at_ = p := ⟨at_.toNat, by omega⟩
    have hpk : p ≤ k := by omega
    have hft := hr.1 rfl
    have hq : ∀ z ∈ Z, RowQ M.length N.length z.2 := fun z hz => rowok_q (hft.2.2.2.2 z.2 (List.mem_map.2 ⟨z, hz, rfl⟩))
    have hk120 : k ≤ 120 := by have := hft.2.2.1; rw [List.length_map] at this; have := hL.len; simp at this; omega
    have hgd : ∀ z ∈ Z, Good W1 z := fun z hz => ((hL.keep hb1).good z hz).good (by rw [(hq z hz).dims]; have := hft.1.1; omega) (by rw [(hq z hz).ok.len]; have := hft.2.1.1; omega)
    have hsr : SrtD Z := fun i hi => by
      have h2 := hr2.1 rfl i hi
      have hd : ∀ j (hj : j < (Z.map Prod.snd).length), ((Z.map Prod.snd)[j]).dims.length = N.length := fun j hj => by
        rw [List.getElem_map]; exact (hq _ (List.getElem_mem _)).dims
      rw [lessK_cmpK _ _ _ _ ((hd i (by omega)).trans (hd (i + 1) hi).symm), decide_eq_true_iff] at h2
      exact h2
    have HQ := Lib.hid (show ∀ z ∈ Z, OkR M.length z.2 from fun z hz => (hq z hz).ok)
    have HGD := Lib.hid hgd
    have HSD := Lib.hid hsr
    have hcap : k ≤ cap := hL.cap
    have HKZ := Lib.hid (show k = Z.length from hL.len)
    have HCR := Lib.hid (show RowsC W1 C Z from ⟨(hL.keep hb1).row, hgd⟩)
    have HNL := Lib.hid (show C = none → cap = 0 from hL.nil)
    have HCX := Lib.hid (show cap ≤ 9223372036854775807 from hL.max)
    have sl1 := fun W => slice_back C k cap p hpk hcap W
    have sl2 := fun W => slice_front C k cap p hpk hcap W
    clear hs hL hr hr2 hW1 hb1 hsb hft hq hgd hsr
    go_enter Try.func5, Try.ntmps5
    go_upto_region 1 with fail
    rw [← HW1.out, ← HSB.out]
    rw [← HSB.out] at s0 s1
    have h1' : ¬ (k : Int) < (p : Int) := by omega
    have h0' : ¬ (p : Int) < 0 := by omega
    go_upto_region 5 with (first | (go_at_call 15; refine HFT.out.mono ?_; rintro e w2 ⟨rfl, hb⟩; have HB2 := Lib.hid hb; clear hb) | (go_at_call 14; refine (HSR.out _ HB2.out).mono ?_; rintro e w3 ⟨rfl, hb⟩; have HB3 := Lib.hid hb; clear hb))
    have HB13 := Lib.hid (bthen HB2.out HB3.out)
    obtain ⟨w4, hw4⟩ : ∃ w4, w4 = w3.drew := ⟨_, rfl⟩
    have hb4 : Below w3.heap.size w3 w4 := by rw [hw4]; exact below_drewN (Below.refl _ _) 1
    have HB14 := Lib.hid (bthen HB13.out hb4)
    obtain ⟨L2, hL2⟩ : ∃ L2 : List Le, L2 = [⟨backA C cap p, k - p, cap - p, Z.drop p⟩, ⟨C, p, cap, Z.take p⟩] := ⟨_, rfl⟩
    have HR2 := Lib.hid (show listsR L2 = (Z.map Prod.snd, 0) by
      refine lists_perm HSD.out (fun x hx => ?_) ?_ HQ.out
      · rw [hL2] at hx
        simp only [List.mem_cons, List.not_mem_nil, or_false] at hx
        rcases hx with rfl | rfl
        · exact List.drop_sublist _ _
        · exact List.take_sublist _ _
      · rw [hL2]
        show (Z.drop p ++ (Z.take p ++ [])).Perm Z
        rw [List.append_nil]
        exact List.perm_append_comm.trans (by rw [List.take_append_drop]))
    have HLS2 := Lib.hid (show LsIn (w4.alloc (.cells #[.slice (backA C cap p) (k - p) (cap - p), .slice C p cap] 28)) (some ⟨w4.heap.size, 0, none⟩) L2 by
      have h := ls_built (w := w4) (L := L2) (fun x hx => by
        rw [hL2] at hx
        simp only [List.mem_cons, List.not_mem_nil, or_false] at hx
        have hc := HCR.out.keep HB14.out
        rcases hx with rfl | rfl
        · exact ⟨⟨row_backA hc.row (by rw [← HKZ.out]; exact hpk) (by rw [← HKZ.out]; exact hcap), fun z hz => hc.good z (List.mem_of_mem_drop hz)⟩, by show k - p = (Z.drop p).length; rw [List.length_drop, HKZ.out], by show k - p ≤ cap - p; omega, by show cap - p ≤ _; have := HCX.out; omega, backA_none HNL.out⟩
        · exact ⟨⟨row_front hc.row p, fun z hz => hc.good z (List.mem_of_mem_take hz)⟩, by show p = (Z.take p).length; rw [List.length_take, ← HKZ.out]; omega, by show p ≤ cap; omega, HCX.out, HNL.out⟩) (by rw [hL2]; show 2 ≤ 1000; decide) (by rw [hL2]; simp)
      have e : (L2.map encE).toArray = #[.slice (backA C cap p) (k - p) (cap - p), .slice C p cap] := by rw [hL2]; rfl
      rwa [e] at h)
    have HFL := Lib.hid (show (L2.map Le.Z).flatten.length ≤ 1000000 ∧ ∀ z ∈ (L2.map Le.Z).flatten, OkR M.length z.2 by
      have e : (L2.map Le.Z).flatten = Z.drop p ++ (Z.take p ++ []) := by rw [hL2]; rfl
      rw [e]
      refine ⟨by simp; have := HKZ.out; omega, fun z hz => HQ.out z ?_⟩
      rw [List.append_nil] at hz
      exact (List.mem_append.1 hz).elim List.mem_of_mem_drop List.mem_of_mem_take)
    have HLN := Lib.hid (show 2 = L2.length by rw [hL2]; rfl)
    clear hL2 hb4
    refine wp_region_held_drew (S := fun _ => True) (by kernel_rfl) trivial ?_
    intro hHeld
    rw [← hw4]
    clear hw4
    refine take_want (i := 0) (v := ?va0) rfl (by kernel_rfl) (by kernel_rfl) (by kernel_rfl) (fun _ _ _ h => h) (by rfl) ?ya0 (by assumption) ?ra0
    case ya0 => (intro w hSw; go_simp; all_goals with_reducible rfl)
    (try simp only [Act.put, List.setIfInBounds_toArray, List.set_cons_zero, List.set_cons_succ])
    refine take_want (i := 1) (v := ?va1) rfl (by kernel_rfl) (by kernel_rfl) (by kernel_rfl) (fun _ _ _ h => h) (by rfl) ?ya1 (by assumption) ?ra1
    case ya1 => (intro w hSw; go_simp; all_goals with_reducible rfl)
    (try simp only [Act.put, List.setIfInBounds_toArray, List.set_cons_zero, List.set_cons_succ])
    refine take_want (i := 2) (v := ?va2) rfl (by kernel_rfl) (by kernel_rfl) (by kernel_rfl) (fun _ _ _ h => h) (by rfl) ?ya2 (by assumption) ?ra2
    case ya2 => (intro w hSw; go_simp; all_goals with_reducible rfl)
    (try simp only [Act.put, List.setIfInBounds_toArray, List.set_cons_zero, List.set_cons_succ])
    refine take_want (i := 3) (v := ?va3) rfl (by kernel_rfl) (by kernel_rfl) (by kernel_rfl) (fun _ _ _ h => h) (by rfl) ?ya3 (by assumption) ?ra3
    case ya3 => (intro w hSw; go_simp; all_goals with_reducible rfl)
    (try simp only [Act.put, List.setIfInBounds_toArray, List.set_cons_zero, List.set_cons_succ])
    refine take_want (i := 4) (v := ?va4) rfl (by kernel_rfl) (by kernel_rfl) (by kernel_rfl) (fun _ _ _ h => h) (by rfl) ?ya4 (by assumption) ?ra4
    case ya4 => (intro w hSw; go_simp; all_goals with_reducible rfl)
    (try simp only [Act.put, List.setIfInBounds_toArray, List.set_cons_zero, List.set_cons_succ])
    refine take_want (i := 5) (v := ?va5) rfl (by kernel_rfl) (by kernel_rfl) (by kernel_rfl) (fun _ _ _ h => h) (by rfl) ?ya5 (by assumption) ?ra5
    case ya5 => (intro w hSw; go_simp; all_goals with_reducible rfl)
    (try simp only [Act.put, List.setIfInBounds_toArray, List.set_cons_zero, List.set_cons_succ])
    refine wpAnyH_ready (rs := [6]) (by kernel_rfl) (by simp) ?_
    refine AllReadyH.cons rfl (fun K hK => ?_) AllReadyH.nil
    go_simp
    refine hK.out _ _ trivial (fun hHeld => ?_)
    clear hK K
    (try simp only [Act.put, List.setIfInBounds_toArray, List.set_cons_zero, List.set_cons_succ])
    refine wpAnyH_ready (rs := [7]) (by kernel_rfl) (by simp) ?_
    refine AllReadyH.cons rfl (fun K hK => ?_) AllReadyH.nil
    go_simp
    (go_at_call 9; refine (lists_any M.length (some ⟨w4.heap.size, 0, none⟩) 2 2 L2 _ HLS2.out HLN.out (by rw [← HLN.out]; decide) HFL.out.2 HFL.out.1).mono ?_; rintro e w5 ⟨v5, Y5, x5, rfl, hl5, ho5, hy5, hb5⟩)
    refine hK.out _ _ trivial (fun hHeld => ?_)
    clear hK K
    (try simp only [Act.put, List.setIfInBounds_toArray, List.set_cons_zero, List.set_cons_succ])
    refine take_want (i := 8) (v := ?vb8) rfl (by kernel_rfl) (by kernel_rfl) (by kernel_rfl) (fun _ _ _ h => h) (by rfl) ?yb8 (by assumption) ?rb8
    case yb8 => (intro w hSw; go_simp; all_goals with_reducible rfl)
    (try simp only [Act.put, List.setIfInBounds_toArray, List.set_cons_zero, List.set_cons_succ])
    refine take_want (i := 9) (v := ?vb9) rfl (by kernel_rfl) (by kernel_rfl) (by kernel_rfl) (fun _ _ _ h => h) (by rfl) ?yb9 (by assumption) ?rb9
    case yb9 => (intro w hSw; go_simp; all_goals with_reducible rfl)
    (try simp only [Act.put, List.setIfInBounds_toArray, List.set_cons_zero, List.set_cons_succ])
    refine take_want (i := 10) (v := ?vb10) rfl (by kernel_rfl) (by kernel_rfl) (by kernel_rfl) (fun _ _ _ h => h) (by rfl) ?yb10 (by assumption) ?rb10
    case yb10 => (intro w hSw; go_simp; all_goals with_reducible rfl)
    (try simp only [Act.put, List.setIfInBounds_toArray, List.set_cons_zero, List.set_cons_succ])
    refine take_want (i := 11) (v := ?vb11) rfl (by kernel_rfl) (by kernel_rfl) (by kernel_rfl) (fun _ _ _ h => h) (by rfl) ?yb11 (by assumption) ?rb11
    case yb11 => (intro w hSw; go_simp; all_goals with_reducible rfl)
    (try simp only [Act.put, List.setIfInBounds_toArray, List.set_cons_zero, List.set_cons_succ])
    refine take_want (i := 12) (v := ?vb12) rfl (by kernel_rfl) (by kernel_rfl) (by kernel_rfl) (fun _ _ _ h => h) (by rfl) ?yb12 (by assumption) ?rb12
    case yb12 => (intro w hSw; go_simp; all_goals with_reducible rfl)
    (try simp only [Act.put, List.setIfInBounds_toArray, List.set_cons_zero, List.set_cons_succ])
    refine wpAnyH_done (by kernel_rfl) ?_ _
    rw [HR2.out] at hl5
    obtain ⟨hY5, rfl⟩ := Prod.mk.inj hl5
    have HB15 := Lib.hid (show Below W1.heap.size W1 w5 from (bpush HB14.out _).trans (hb5.mono (by simp; have := HB14.out.size; omega)))
    have HY5 := Lib.hid hY5
    have HO5 := Lib.hid ho5
    have HG5 := Lib.hid hy5
    clear hHeld hl5 hY5 hb5 ho5 hy5 HLS2 HFL HLN HR2 HFT HSR sl1 sl2
    go_upto_region 8 with fail
    go_loopw [11, 12, 13] (fun v11 v12 v13 wr => ∃ (i : Nat) (vo ve : Value) (O E : List RZ), vo = v11 ∧ ve = v12 ∧ v13 = .int .i64 i ∧ i ≤ k ∧ Hid (Below w5.heap.size w5 wr) ∧ Hid (Deal w5 Z i vo ve O E wr)) (fun _ _ v13 _ => k - (intOf v13).toNat)
    case atStart => exact ⟨0, _, _, [], [], rfl, rfl, rfl, Nat.zero_le _, Lib.hid (Below.refl _ _), Lib.hid (Deal.start (Below.refl _ _))⟩
    case round =>
      obtain ⟨i, vo, ve, O, E, rfl, rfl, rfl, hik, HBI, HDL⟩ := hrel
      obtain ⟨wo, rfl⟩ : ∃ wo : World, wo = wr := ⟨_, rfl⟩
      by_cases hlt : i < k
      case pos =>
        have hi0 : (0 : Int) ≤ (i : Int) := by omega
        have hi1 : (i : Int) < (k : Int) := by omega
        have hiZ : i < Z.length := by rw [← HKZ.out]; exact hlt
        obtain ⟨bA, oA, hAe, x0, x1, x2, x3⟩ := row4 ((HCR.out.keep HB15.out).keep HBI.out).row hiZ
        obtain ⟨x, hx⟩ : ∃ x, x = Z[i] := ⟨_, rfl⟩
        rw [← hx] at x0 x1 x2 x3
        have hol : O.length ≤ 120 := by have := HDL.out.so.length_le; rw [List.length_take] at this; omega
        have hel : E.length ≤ 120 := by have := HDL.out.se.length_le; rw [List.length_take] at this; omega
        have HXZ := Lib.hid (show ∃ h : i < Z.length, x = Z[i] from ⟨hiZ, hx⟩)
        have HDA := Lib.hid (HDL.out.keep (bpush (Below.refl wo.heap.size wo) (.cells #[.int .i64 x.2.t, .slice x.1.D x.1.n x.1.c, .int .i64 x.2.count, .slice x.1.G x.1.gn x.1.gc] 39)))
        have hsz : w5.heap.size ≤ wo.heap.size := HBI.out.size
        obtain ⟨i0, hi0', hz0, hz1, hz2⟩ := info_parts info27
        subst hAe
        clear hlt hx hiZ
        by_cases hpar : i % 2 = 0
        · have hp : Int.tmod (i : Int) 2 = 0 := by rw [Int.tmod_eq_emod_of_nonneg hi0]; omega
          go_wp2_with (at_builtin; refine wpList_append_own_at _ rfl _ _ 28 rfl w5.heap.size 39 i0 (.agg #[.int .i64 0, .slice none 0 0, .int .i64 0, .slice none 0 0]) 4 64 Try.underlying28 hi0' hz0 hz1 hz2 rfl (by decide) ve E.length (cellsR E) rfl HDA.out.oe ⟨wo.heap.size, 0, none⟩ 1 1 [.int .i64 x.2.t, .slice x.1.D x.1.n x.1.c, .int .i64 x.2.count, .slice x.1.G x.1.gn x.1.gc] rfl rfl (Row.made rfl rfl).at' (by intro u hu; simp at hu; rcases hu with rfl | rfl | rfl | rfl <;> rfl) (by unfold maxLen; omega) (by omega) (by simp; omega) ?_; intro v3 w3 ho3 hg3 _ hd3)
          have HDN := Lib.hid (show ∃ O' E', Deal w5 Z (i + 1) vo v3 O' E' w3 by
            obtain ⟨h, hx⟩ := HXZ.out
            refine ⟨_, _, HDA.out.even h (by rw [← hx]; exact ho3) hg3 hd3⟩)
          have HBN := Lib.hid (show Below w5.heap.size w5 w3 from (bpush HBI.out _).trans (grown_below4 HDA.out.oe hg3 (by simp; omega)))
          clear ho3 hg3 hd3
          go_wp2_with fail
          go_roundw
          case rel =>
            obtain ⟨O', E', hdn⟩ := HDN.out
            exact ⟨i + 1, vo, v3, O', E', rfl, rfl, by go_num, by omega, HBN, Lib.hid hdn⟩
          case measure => simp [intOf]; omega
        · have hp : Int.tmod (i : Int) 2 = 1 := by rw [Int.tmod_eq_emod_of_nonneg hi0]; omega
          go_wp2_with (at_builtin; refine wpList_append_own_at _ rfl _ _ 28 rfl w5.heap.size 39 i0 (.agg #[.int .i64 0, .slice none 0 0, .int .i64 0, .slice none 0 0]) 4 64 Try.underlying28 hi0' hz0 hz1 hz2 rfl (by decide) vo O.length (cellsR O) rfl HDA.out.oo ⟨wo.heap.size, 0, none⟩ 1 1 [.int .i64 x.2.t, .slice x.1.D x.1.n x.1.c, .int .i64 x.2.count, .slice x.1.G x.1.gn x.1.gc] rfl rfl (Row.made rfl rfl).at' (by intro u hu; simp at hu; rcases hu with rfl | rfl | rfl | rfl <;> rfl) (by unfold maxLen; omega) (by omega) (by simp; omega) ?_; intro v3 w3 ho3 hg3 _ hd3)
          have HDN := Lib.hid (show ∃ O' E', Deal w5 Z (i + 1) v3 ve O' E' w3 by
            obtain ⟨h, hx⟩ := HXZ.out
            refine ⟨_, _, HDA.out.odd h (by rw [← hx]; exact ho3) hg3 hd3⟩)
          have HBN := Lib.hid (show Below w5.heap.size w5 w3 from (bpush HBI.out _).trans (grown_below4 HDA.out.oo hg3 (by simp; omega)))
          clear ho3 hg3 hd3
          go_wp2_with fail
          go_roundw
          case rel =>
            obtain ⟨O', E', hdn⟩ := HDN.out
            exact ⟨i + 1, v3, ve, O', E', rfl, rfl, by go_num, by omega, HBN, Lib.hid hdn⟩
          case measure => simp [intOf]; omega
      case neg =>
      have hki : ¬ ((i : Int) < (k : Int)) := by omega
      have hE : Z.take i = Z := List.take_of_length_le (by rw [← HKZ.out]; omega)
      have hdl := HDL.out
      have hpm := hdl.perm
      have hso := hdl.so
      have hse := hdl.se
      rw [hE] at hpm hso hse
      have hG5 : ∀ z ∈ Z, Good w5 z := fun z hz => (HGD.out z hz).keep HB15.out
      obtain ⟨xo, rfl, hxo, hxoZ⟩ := le_own hdl.oo hdl.bel (fun z hz => hG5 z (hso.subset hz))
      obtain ⟨xe, rfl, hxe, hxeZ⟩ := le_own hdl.oe hdl.bel (fun z hz => hG5 z (hse.subset hz))
      obtain ⟨L3, hL3⟩ : ∃ L3 : List Le, L3 = [xo, ⟨none, 0, 0, []⟩, xe] := ⟨_, rfl⟩
      have HR3 := Lib.hid (show listsR L3 = (Z.map Prod.snd, 0) by
        refine lists_perm HSD.out (fun x hx => ?_) ?_ HQ.out
        · rw [hL3] at hx
          simp only [List.mem_cons, List.not_mem_nil, or_false] at hx
          rcases hx with rfl | rfl | rfl
          · rw [hxoZ]; exact hso
          · exact List.nil_sublist _
          · rw [hxeZ]; exact hse
        · rw [hL3]
          show (xo.Z ++ ([] ++ (xe.Z ++ []))).Perm Z
          rw [hxoZ, hxeZ, List.nil_append, List.append_nil]; exact hpm)
      have HLS3 := Lib.hid (show LsIn (wo.alloc (.cells #[encE xo, .slice none 0 0, encE xe] 28)) (some ⟨wo.heap.size, 0, none⟩) L3 by
        have h := ls_built (w := wo) (L := L3) (fun x hx => by
          rw [hL3] at hx
          simp only [List.mem_cons, List.not_mem_nil, or_false] at hx
          rcases hx with rfl | rfl | rfl
          · exact hxo
          · exact LeOk.nilL _
          · exact hxe) (by rw [hL3]; show 3 ≤ 1000; decide) (by rw [hL3]; simp)
        have e : (L3.map encE).toArray = #[encE xo, .slice none 0 0, encE xe] := by rw [hL3]; rfl
        rwa [e] at h)
      have HFL3 := Lib.hid (show (L3.map Le.Z).flatten.length ≤ 1000000 ∧ ∀ z ∈ (L3.map Le.Z).flatten, OkR M.length z.2 by
        have e : (L3.map Le.Z).flatten = O ++ E := by rw [hL3]; show xo.Z ++ ([] ++ (xe.Z ++ [])) = _; rw [hxoZ, hxeZ, List.nil_append, List.append_nil]
        rw [e]
        refine ⟨by rw [hpm.length_eq, ← HKZ.out]; omega, fun z hz => HQ.out z (hpm.subset hz)⟩)
      have HLN3 := Lib.hid (show 3 = L3.length by rw [hL3]; rfl)
      have HCL := Lib.hid (lists_any M.length (some ⟨wo.heap.size, 0, none⟩) 3 3 L3 _ HLS3.out HLN3.out (by rw [← HLN3.out]; decide) HFL3.out.2 HFL3.out.1)
      obtain ⟨_, v5A, v5c, rfl, hvr, hvc, hvm, _⟩ := own_sliceR HO5.out
      have HV5 := Lib.hid (And.intro hvr (And.intro hvc hvm))
      have ee : ∀ x : Le, encE x = .slice x.A x.n x.c := fun _ => rfl
      rw [ee xo, ee xe] at HCL ⊢
      clear hlt hE hdl hpm hso hse hxo hxe hxoZ hxeZ hL3 hvr hvc hvm hG5 HLS3 HFL3 HLN3 HDL ee
      go_upto_region 14 with (go_at_call 9; refine HCL.out.mono ?_; rintro e w6 ⟨v6, Y6, x6, rfl, hl6, ho6, hy6, hb6⟩)
      rw [HR3.out] at hl6
      obtain ⟨hY6, rfl⟩ := Prod.mk.inj hl6
      obtain ⟨_, v6A, v6c, rfl, hvr6, hvc6, hvm6, _⟩ := own_sliceR ho6
      have hbo6 : Below wo.heap.size wo w6 := (bpush (Below.refl _ _) _).trans (hb6.mono (by simp))
      have h56 : Below w5.heap.size w5 w6 := bthen HBI.out hbo6
      have hl5' : Y5.length = Z.length := by have := congrArg List.length HY5.out; simp at this; omega
      have hl6' : Y6.length = Z.length := by have := congrArg List.length hY6; simp at this; omega
      have hRZ : RowsM w6 C (Z.map Prod.snd) := (((HCR.out.keep HB15.out).keep h56)).rowsM
      have HS1 := Lib.hid (refrows_any v5A C Y5.length v5c k cap (Y5.map Prod.snd) (Z.map Prod.snd) w6
        (RowsC.rowsM ⟨HV5.out.1.keep (Nat.le_refl _) h56, fun y hy => ((HG5.out y hy).good).keep h56⟩) hRZ (by rw [List.length_map]) (by rw [List.length_map]; exact HKZ.out) (by have := HKZ.out; omega) (by omega) true (by simp [← HY5.out]))
      have HS2 := Lib.hid (fun (W : World) (h : Below w6.heap.size w6 W) => refrows_any v6A C Y6.length v6c k cap (Y6.map Prod.snd) (Z.map Prod.snd) W
        (RowsC.rowsM ⟨hvr6.keep (Nat.le_refl _) h, fun y hy => ((hy6 y hy).good).keep h⟩) ((((HCR.out.keep HB15.out).keep h56).keep h).rowsM) (by rw [List.length_map]) (by rw [List.length_map]; exact HKZ.out) (by have := HKZ.out; omega) (by omega) true (by simp [← hY6]))
      have HBE := Lib.hid (show Below w.heap.size w w6 from HB1.out.trans ((bthen HB15.out h56).mono HB1.out.size))
      clear hl6 hY6 ho6 hy6 hb6 hvr6 hvc6 hvm6 hbo6 h56 hl5' hl6' hRZ HCL
      go_upto_region 15 with (go_at_call 13; refine HS1.out.mono ?_; rintro e w7 ⟨rfl, hb⟩; have HB7 := Lib.hid hb; clear hb)
      clear HS1
      go_upto_region 16 with (go_at_call 13; refine (HS2.out _ HB7.out).mono ?_; rintro e w8 ⟨rfl, hb⟩; have HB8 := Lib.hid hb; clear hb)
      clear HS2
      go_wp2_with (first
        | (go_at_call 13; refine (HS2.out _ HB7.out).mono ?_; rintro e w8 ⟨rfl, hb⟩; have HB8 := Lib.hid hb; clear hb)
        | (go_at_call 8; refine (HAL.out _).mono ?_; rintro e w9 ⟨rfl, hb⟩; have HB9 := Lib.hid hb; clear hb))
      go_ret
      exact ⟨by simp, HBE.out.trans ((bthen (bthen HB7.out HB8.out) HB9.out).mono HBE.out.size)⟩
end Go.Proofs.Ytbccjkjibffbkaa
