/- Of (the code's). -/
import Derived.Test.YtmmeekmiildliaaGreatDoorRD
namespace Go.Proofs.YtmmeekmiildliaaGreatDoor
open Go.RowKit
set_option linter.unusedSimpArgs false
set_option linter.unusedVariables false
/-- The aggs of an event's numbers. -/
def onesG (X : List Int) : List Ag := X.map fun n => ofA3 (oneA n).1
/-- An event's row, or the error. -/
def ofR (t : Int) (D : List ByteArray) (X : List Int) (v : Int) : RV × Int := if v = 0 then (⟨t, D, 1, onesG X⟩, 0) else (RV.zero, v)
theorem onesG_snoc (X : List Int) (k : Nat) (h : k < X.length) : onesG (X.take (k + 1)) = onesG (X.take k) ++ [ofA3 (oneA X[k]).1] := by
  unfold onesG; rw [take_snoc X k h, List.map_append]; rfl
theorem onesG_len (X : List Int) : (onesG X).length = X.length := by simp [onesG]
set_option maxRecDepth 100000 in
set_option maxHeartbeats 16000000 in
theorem of_any (A B E F : Option Addr) (n c m d p q x y : Nat) (t : Int) (L M D : List ByteArray) (X : List Int) (w : World) (hE : Row w E (texts D)) (hF : Row w F (X.map (Value.int .i64))) (hn : n = L.length) (hm : m = M.length) (hp : p = D.length) (hx : x = X.length)
    (hD : ∀ s ∈ D, s.size ≤ 9223372036854775807) (hpq : p ≤ q) (hen : E = none → q = 0) (hs1 : p * 16 ≤ 140737488355328) (hs2 : x * 24 ≤ 140737488355328) (v : Int) (hv : CheckIs L M D X t v) :
    Calls Tryz.prog 43 #[.agg #[.slice A n c, .slice B m d], .agg #[.int .i64 t, .slice E p q, .slice F x y]] w (JoinPost w (ofR t D X v)) := by
  obtain ⟨W1, hW1⟩ : ∃ W1, W1 = ((w.alloc (.cells #[.slice A n c, .slice B m d] 24)).alloc (.cells #[.int .i64 t, .slice E p q, .slice F x y] 29)).alloc (.cells #[.int .i64 0, .slice none 0 0, .int .i64 0, .slice none 0 0] 59) := ⟨_, rfl⟩
  have hb1 : Below w.heap.size w W1 := by rw [hW1]; exact bpush (bpush (bpush (Below.refl _ _) _) _) _
  have HB1 := Lib.hid hb1
  have HE := Lib.hid (hE.keep (Nat.le_refl _) hb1)
  have HF := Lib.hid (hF.keep (Nat.le_refl _) hb1)
  have HSZ := Lib.hid (show W1.heap.size = w.heap.size + 3 by rw [hW1]; simp)
  have y0 : W1.cell? ⟨w.heap.size + 1, 0, none⟩ = some (.int .i64 t) := by rw [hW1]; exact cell_on (bpush (Below.refl _ _) _) (cell_made (by simp) rfl)
  have y1 : W1.cell? ⟨w.heap.size + 1, 1, none⟩ = some (.slice E p q) := by rw [hW1]; exact cell_on (bpush (Below.refl _ _) _) (cell_made (by simp) rfl)
  have y2 : W1.cell? ⟨w.heap.size + 1, 2, none⟩ = some (.slice F x y) := by rw [hW1]; exact cell_on (bpush (Below.refl _ _) _) (cell_made (by simp) rfl)
  have HZ := Lib.hid (show Bx4 W1 (w.heap.size + 1 + 1) (.int .i64 0) (.slice none 0 0) (.int .i64 0) (.slice none 0 0) by
    rw [hW1]
    have := Bx4.made (w := (w.alloc (.cells #[.slice A n c, .slice B m d] 24)).alloc (.cells #[.int .i64 t, .slice E p q, .slice F x y] 29)) (x0 := .int .i64 0) (x1 := .slice none 0 0) (x2 := .int .i64 0) (x3 := .slice none 0 0) (t := 59)
    simpa using this)
  have HW1 := Lib.hid hW1
  have HP := Lib.hid hp
  have HX := Lib.hid hx
  have HPQ := Lib.hid hpq
  have HEN := Lib.hid hen
  have HS1 := Lib.hid hs1
  have HS2 := Lib.hid hs2
  have HCC := Lib.hid (check_any A B E F n c m d p q x y t L M D X W1 HE.out HF.out hn hm hp hx hD (by omega) (by omega) v hv)
  obtain ⟨r, hr⟩ : ∃ r, r = ofR t D X v := ⟨_, rfl⟩
  rw [← hr]
  have HR := Lib.hid hr
  clear hE hF hn hm hp hx hD hpq hen hs1 hs2 hv hW1 hb1 hr
  go_enter Tryz.func43, Tryz.ntmps43
  go_wp2_with fail
  rw [← HW1.out]
  clear HW1
  go_at_call 28
  refine HCC.out.mono ?_
  clear HCC
  intro e w7 h
  obtain ⟨he, hb⟩ := h
  subst he
  have y0 := cell_on hb y0
  have y1 := cell_on hb y1
  have y2 := cell_on hb y2
  have HZ := Lib.hid (HZ.out.keep hb)
  have HE := Lib.hid (HE.out.keep (Nat.le_refl _) hb)
  have HF := Lib.hid (HF.out.keep (Nat.le_refl _) hb)
  have HBB := Lib.hid (bthen HB1.out hb)
  have HSZ := Lib.hid (show w.heap.size + 3 ≤ w7.heap.size by have := hb.size; have := HSZ.out; omega)
  clear hb
  by_cases h1 : v = 0
  case neg =>
    have z1 : (v != 0) = true := by rw [bne_iff_ne]; exact h1
    have HR2 := Lib.hid (show r = (RV.zero, v) by rw [HR.out, ofR, if_neg h1])
    clear h1
    obtain ⟨b0, b1, b2, b3, bf⟩ := HZ.out
    go_wp2_with fail
    obtain ⟨W2, hW2⟩ : ∃ W2, W2 = ((((w7.setCell ⟨w.heap.size + 1 + 1, 0, none⟩ (.int .i64 0)).setCell ⟨w.heap.size + 1 + 1, 1, none⟩ (.slice none 0 0)).setCell ⟨w.heap.size + 1 + 1, 2, none⟩ (.int .i64 0)).setCell ⟨w.heap.size + 1 + 1, 3, none⟩ (.slice none 0 0)) := ⟨_, rfl⟩
    have HX2 := Lib.hid (HZ.out.all (.int .i64 0) (.slice none 0 0) (.int .i64 0) (.slice none 0 0))
    have HB2 := Lib.hid (bset (bset (bset (bset HBB.out (b := w.heap.size + 1 + 1) (o := 0) (by omega) (.int .i64 0)) (b := w.heap.size + 1 + 1) (o := 1) (by omega) (.slice none 0 0)) (b := w.heap.size + 1 + 1) (o := 2) (by omega) (.int .i64 0)) (b := w.heap.size + 1 + 1) (o := 3) (by omega) (.slice none 0 0))
    rw [← hW2] at HX2 HB2 ⊢
    clear hW2 b0 b1 b2 b3 bf
    obtain ⟨b0, b1, b2, b3, bf⟩ := HX2.out
    exact bodyPost_ret (v := (.tuple #[.agg #[.int .i64 0, .slice none 0 0, .int .i64 0, .slice none 0 0], .int .i64 v])) (by simp [results, Tryz.results43, go_sem, b0, b1, b2, b3]) rfl (JoinPost.none HR2.out HB2.out)
  case pos =>
  subst h1
  have HR2 := Lib.hid (show r = (⟨t, D, 1, onesG X⟩, 0) by rw [HR.out, ofR, if_pos rfl])
  go_upto_region 4 with fail
  go_cut [7] (fun s7 wx => ∃ (g : Nat) (DD : Option Addr) (k : Nat), s7 = .pointer (some ⟨g, 0, none⟩) ∧ Bx4 wx g (.int .i64 t) (.slice DD p k) (.int .i64 1) (.slice none 0 0) ∧ wx.ownsRow w7.heap.size 9 1 (.slice DD p k) p (texts D) ∧ (Value.slice DD p k).ownBlock ≠ some g ∧ w7.heap.size ≤ g ∧ Below w7.heap.size w7 wx)
  case first =>
    refine wp_region_held_drew (S := fun w' => Below w7.heap.size w7 w') (by kernel_rfl) (below_drewN (Below.refl _ _) 1) ?_
    intro hHeld
    refine take_want (i := 0) (v := ?v0k1) rfl (by kernel_rfl) (by kernel_rfl) (by kernel_rfl) (fun _ _ _ h => h) (by rfl) ?y0k1 (by assumption) ?r0k1
    case y0k1 => (intro w hSw; go_simp; all_goals with_reducible rfl)
    (try simp only [Act.put, List.setIfInBounds_toArray, List.set_cons_zero, List.set_cons_succ])
    refine take_want (i := 1) (v := ?v1k1) rfl (by kernel_rfl) (by kernel_rfl) (by kernel_rfl) (fun _ _ _ h => h) (by rfl) ?y1k1 (by assumption) ?r1k1
    case y1k1 => (intro w hSw; have q0 := cell_on hSw y0; have q1 := cell_on hSw y1; have q2 := cell_on hSw y2; go_simp; all_goals with_reducible rfl)
    (try simp only [Act.put, List.setIfInBounds_toArray, List.set_cons_zero, List.set_cons_succ])
    refine take_want (i := 2) (v := ?v2k1) rfl (by kernel_rfl) (by kernel_rfl) (by kernel_rfl) (fun _ _ _ h => h) (by rfl) ?y2k1 (by assumption) ?r2k1
    case y2k1 => (intro w hSw; go_simp; all_goals with_reducible rfl)
    (try simp only [Act.put, List.setIfInBounds_toArray, List.set_cons_zero, List.set_cons_succ])
    refine take_want (i := 3) (v := ?v3k1) rfl (by kernel_rfl) (by kernel_rfl) (by kernel_rfl) (fun _ _ _ h => h) (by rfl) ?y3k1 (by assumption) ?r3k1
    case y3k1 => (intro w hSw; have q0 := cell_on hSw y0; have q1 := cell_on hSw y1; have q2 := cell_on hSw y2; go_simp; all_goals with_reducible rfl)
    (try simp only [Act.put, List.setIfInBounds_toArray, List.set_cons_zero, List.set_cons_succ])
    refine wpAnyH_ready (rs := [4, 6]) (by kernel_rfl) (by simp) ?_
    refine AllReadyH.cons rfl (fun K hK => ?_) (AllReadyH.cons rfl (fun K hK => ?_) AllReadyH.nil)
    · go_simp
      (go_at_call 36; refine (cloneT_any E p q (texts D) _ (HE.out.keep (Nat.le_refl _) hHeld) (by rw [HP.out]; simp [texts]) (one_texts _) HPQ.out HEN.out HS1.out).mono ?_; rintro e w8 ⟨DD, k, rfl, ho, hb⟩)
      refine hK.out _ _ (bthen hHeld hb) (fun hHeld => ?_)
      clear hK K
      (try simp only [Act.put, List.setIfInBounds_toArray, List.set_cons_zero, List.set_cons_succ])
      refine take_want (i := 5) (v := ?v5k2) rfl (by kernel_rfl) (by kernel_rfl) (by kernel_rfl) (fun _ _ _ h => h) (by rfl) ?y5k2 (by assumption) ?r5k2
      case y5k2 => (intro w hSw; go_simp; all_goals with_reducible rfl)
      (try simp only [Act.put, List.setIfInBounds_toArray, List.set_cons_zero, List.set_cons_succ])
      refine wpAnyH_ready (rs := [6]) (by kernel_rfl) (by simp) ?_
      refine AllReadyH.cons rfl (fun K hK => ?_) AllReadyH.nil
      go_simp
      refine hK.out _ _ (bpush hHeld _) (fun hHeld => ?_)
      clear hK K
      (try simp only [Act.put, List.setIfInBounds_toArray, List.set_cons_zero, List.set_cons_succ])
      obtain ⟨w9, hw9⟩ : ∃ w9, w9 = w8.alloc (.cells #[.int .i64 0, .slice none 0 0, .int .i64 0, .slice none 0 0] 59) := ⟨_, rfl⟩
      have hbx : Bx4 w9 w8.heap.size (.int .i64 0) (.slice none 0 0) (.int .i64 0) (.slice none 0 0) := by rw [hw9]; exact Bx4.made
      have hge0 : w7.heap.size ≤ w8.heap.size := by have := hb.size; simpa using this
      have hap : (Value.slice DD p k).ownBlock ≠ some w8.heap.size := own_fresh ho
      have HO := Lib.hid (show w9.ownsRow w7.heap.size 9 1 (.slice DD p k) p (texts D) by rw [hw9]; exact ho.alloc _)
      rw [← hw9] at hHeld ⊢
      clear hw9 ho hb
      have HBX := Lib.hid (show Bx4 w9 w8.heap.size (.int .i64 0) (.slice none 0 0) (.int .i64 0) (.slice none 0 0) from hbx)
      clear hbx
      obtain ⟨e0, e1, e2, e3, ef⟩ := HBX.out
      refine wpAnyH_ready (rs := [7]) (by kernel_rfl) (by simp) ?_
      refine AllReadyH.cons rfl (fun K hK => ?_) AllReadyH.nil
      go_simp
      have hBs := bset (bset (bset (bset hHeld (o := 0) hge0 (.int .i64 t)) (o := 1) hge0 (.slice DD p k)) (o := 2) hge0 (.int .i64 1)) (o := 3) hge0 (.slice none 0 0)
      refine hK.out _ _ (by first | exact hBs | (simp at hBs ⊢; exact hBs)) (fun hHeld2 => ?_)
      clear hK K
      (try simp only [Act.put, List.setIfInBounds_toArray, List.set_cons_zero, List.set_cons_succ])
      refine wpAnyH_done (by kernel_rfl) ?_ _
      go_wp2_with fail
      go_meet
      exact ⟨w8.heap.size, DD, k, rfl, HBX.out.all _ _ _ _, own_set' (own_set' (own_set' (own_set' HO.out hap) hap) hap) hap, hap, hge0, hHeld2⟩
    · go_simp
      refine hK.out _ _ (bpush hHeld _) (fun hHeld => ?_)
      clear hK K
      (try simp only [Act.put, List.setIfInBounds_toArray, List.set_cons_zero, List.set_cons_succ])
      obtain ⟨wA, hwA⟩ : ∃ wA, wA = (w7.alloc (.cells #[.int .i64 0, .slice none 0 0, .int .i64 0, .slice none 0 0] 59)).drew := ⟨_, rfl⟩
      have hbA : Bx4 wA w7.heap.size (.int .i64 0) (.slice none 0 0) (.int .i64 0) (.slice none 0 0) := by rw [hwA]; have m := Bx4.made (w := w7) (x0 := .int .i64 0) (x1 := .slice none 0 0) (x2 := .int .i64 0) (x3 := .slice none 0 0) (t := 59); exact ⟨m.c0, m.c1, m.c2, m.c3, m.fr⟩
      have hsA : wA.heap.size = w7.heap.size + 1 := by rw [hwA]; simp
      rw [← hwA] at hHeld ⊢
      clear hwA
      refine wpAnyH_ready (rs := [4]) (by kernel_rfl) (by simp) ?_
      refine AllReadyH.cons rfl (fun K hK => ?_) AllReadyH.nil
      go_simp
      (go_at_call 36; refine (cloneT_any E p q (texts D) _ (HE.out.keep (Nat.le_refl _) hHeld) (by rw [HP.out]; simp [texts]) (one_texts _) HPQ.out HEN.out HS1.out).mono ?_; rintro e w9 ⟨DD, k, rfl, ho, hb⟩)
      refine hK.out _ _ (bthen hHeld hb) (fun hHeld => ?_)
      clear hK K
      (try simp only [Act.put, List.setIfInBounds_toArray, List.set_cons_zero, List.set_cons_succ])
      refine take_want (i := 5) (v := ?v5k3) rfl (by kernel_rfl) (by kernel_rfl) (by kernel_rfl) (fun _ _ _ h => h) (by rfl) ?y5k3 (by assumption) ?r5k3
      case y5k3 => (intro w hSw; go_simp; all_goals with_reducible rfl)
      (try simp only [Act.put, List.setIfInBounds_toArray, List.set_cons_zero, List.set_cons_succ])
      have hbx := hbA.keep hb
      have hge0 : w7.heap.size ≤ w7.heap.size := Nat.le_refl _
      have hap : (Value.slice DD p k).ownBlock ≠ some w7.heap.size := own_apart ho (by omega)
      have HO := Lib.hid (show w9.ownsRow w7.heap.size 9 1 (.slice DD p k) p (texts D) from own_less ho (by omega))
      clear ho hb hbA hsA
      have HBX := Lib.hid (show Bx4 w9 w7.heap.size (.int .i64 0) (.slice none 0 0) (.int .i64 0) (.slice none 0 0) from hbx)
      clear hbx
      obtain ⟨e0, e1, e2, e3, ef⟩ := HBX.out
      refine wpAnyH_ready (rs := [7]) (by kernel_rfl) (by simp) ?_
      refine AllReadyH.cons rfl (fun K hK => ?_) AllReadyH.nil
      go_simp
      have hBs := bset (bset (bset (bset hHeld (o := 0) hge0 (.int .i64 t)) (o := 1) hge0 (.slice DD p k)) (o := 2) hge0 (.int .i64 1)) (o := 3) hge0 (.slice none 0 0)
      refine hK.out _ _ (by first | exact hBs | (simp at hBs ⊢; exact hBs)) (fun hHeld2 => ?_)
      clear hK K
      (try simp only [Act.put, List.setIfInBounds_toArray, List.set_cons_zero, List.set_cons_succ])
      refine wpAnyH_done (by kernel_rfl) ?_ _
      go_wp2_with fail
      go_meet
      exact ⟨w7.heap.size, DD, k, rfl, HBX.out.all _ _ _ _, own_set' (own_set' (own_set' (own_set' HO.out hap) hap) hap) hap, hap, hge0, hHeld2⟩
  case rest =>
    obtain ⟨g, DD, k, rfl, hbx, ho, hap, hge, hbw⟩ := hcut
    have HBX := Lib.hid hbx
    have HO := Lib.hid ho
    have HAP := Lib.hid hap
    have HBW := Lib.hid hbw
    have hgl : g < wc.heap.size := hbx.lt
    have hwl : w7.heap.size ≤ wc.heap.size := hbw.size
    have hsz := HSZ.out
    have r2 := cell_on hbw y2
    clear hbx ho hap hbw
    obtain ⟨wl, hwlq⟩ : ∃ wl, wl = wc := ⟨_, rfl⟩
    subst hwlq
    obtain ⟨i0, hi0, hz0, hz1, hz2⟩ := info_parts info51
    have hgb : x ≤ 9223372036854775806 := by have := HS2.out; omega
    go_wp2_with fail
    go_loopw [9, 10, 11, 28] (fun q7 q8 q9 i wr => ∃ (k0 : Nat) (v : Value), i = .int .i64 (k0 : Int) ∧ k0 ≤ x ∧ Hid (wr.ownsRow wl.heap.size 64 3 v k0 (cellsG (onesG (X.take k0)))) ∧ Hid (Bx4 wr g (.int .i64 t) (.slice DD p k) (.int .i64 1) v) ∧ Hid (Near g wl.heap.size wl wr)) (fun _ _ _ i _ => x - (intOf i).toNat)
    case atStart => exact ⟨0, .slice none 0 0, rfl, by omega, Lib.hid (World.ownsRow_nil _ _ _ _), HBX, Lib.hid (Near.refl _ _ _)⟩
    case round =>
      obtain ⟨k0, v, rfl, hk, HOV, HBXR, HNR⟩ := hrel
      have HBR := Lib.hid (HBW.out.trans (HNR.out.below hge hwl))
      have HZ := Lib.hid (HZ.out.keep HBR.out)
      have HWR := Lib.hid (bthen HBB.out HBR.out)
      have hwr : w7.heap.size ≤ wr.heap.size := HBR.out.size
      have hlr : wl.heap.size ≤ wr.heap.size := HNR.out.size
      by_cases hlt : k0 < x
      case neg =>
        have hki : ¬ ((k0 : Int) < (x : Int)) := by omega
        have hkg : k0 = x := by omega
        subst hkg
        have HOV := Lib.hid (show wr.ownsRow wl.heap.size 64 3 v k0 (cellsG (onesG X)) by have h := HOV.out; rwa [List.take_of_length_le (by have := HX.out; omega)] at h)
        obtain ⟨hPl, G3, c3, rfl, hrw3, hc3, hm3, hn3⟩ := own_slice3 HOV.out
        clear hlt hPl hrw3 hc3 hm3 hn3
        obtain ⟨e0, e1, e2, e3, ef⟩ := HBXR.out
        obtain ⟨b0, b1, b2, b3, bf⟩ := HZ.out
        go_wp2_with fail
        obtain ⟨W2, hW2⟩ : ∃ W2, W2 = ((((wr.setCell ⟨w.heap.size + 1 + 1, 0, none⟩ (.int .i64 t)).setCell ⟨w.heap.size + 1 + 1, 1, none⟩ (.slice DD p k)).setCell ⟨w.heap.size + 1 + 1, 2, none⟩ (.int .i64 1)).setCell ⟨w.heap.size + 1 + 1, 3, none⟩ (.slice G3 k0 c3)) := ⟨_, rfl⟩
        have HX2 := Lib.hid (HZ.out.all (.int .i64 t) (.slice DD p k) (.int .i64 1) (.slice G3 k0 c3))
        have HB2 := Lib.hid (bset (bset (bset (bset HWR.out (b := w.heap.size + 1 + 1) (o := 0) (by omega) (.int .i64 t)) (b := w.heap.size + 1 + 1) (o := 1) (by omega) (.slice DD p k)) (b := w.heap.size + 1 + 1) (o := 2) (by omega) (.int .i64 1)) (b := w.heap.size + 1 + 1) (o := 3) (by omega) (.slice G3 k0 c3))
        have ha1 : (Value.slice DD p k).ownBlock ≠ some (w.heap.size + 1 + 1) := own_apart HO.out (by omega)
        have ha2 : (Value.slice G3 k0 c3).ownBlock ≠ some (w.heap.size + 1 + 1) := own_apart HOV.out (by omega)
        have hod := HNR.out.own HO.out (Nat.le_refl _) HAP.out
        have HOD := Lib.hid (own_less (own_set' (own_set' (own_set' (own_set' (o := 0) (u := .int .i64 t) hod ha1) (o := 1) (u := .slice DD p k) ha1) (o := 2) (u := .int .i64 1) ha1) (o := 3) (u := .slice G3 k0 c3) ha1) (C := w.heap.size) (by omega))
        have HOG := Lib.hid (own_less (own_set' (own_set' (own_set' (own_set' (o := 0) (u := .int .i64 t) HOV.out ha2) (o := 1) (u := .slice DD p k) ha2) (o := 2) (u := .int .i64 1) ha2) (o := 3) (u := .slice G3 k0 c3) ha2) (C := w.heap.size) (by omega))
        rw [← hW2] at HX2 HB2 HOD HOG ⊢
        clear hW2 b0 b1 b2 b3 bf ha1 ha2 hod
        obtain ⟨b0, b1, b2, b3, bf⟩ := HX2.out
        exact bodyPost_ret (v := (.tuple #[.agg #[.int .i64 t, .slice DD p k, .int .i64 1, .slice G3 k0 c3], .int .i64 0])) (by simp [results, Tryz.results43, go_sem, b0, b1, b2, b3]) rfl
          ⟨(⟨DD, p, k, G3, k0, c3⟩, ⟨t, D, 1, onesG X⟩), by rw [HR2.out]; rfl, by rw [HR2.out], ⟨HOD.out, HOG.out, HS1.out, HS2.out⟩, HB2.out⟩
      case pos =>
      have hki : (k0 : Int) < (x : Int) := by omega
      have hk00 : (0 : Int) ≤ (k0 : Int) := by omega
      have hkX : k0 < X.length := by have := HX.out; omega
      obtain ⟨bg1, o1, rfl, p0⟩ := (HF.out.keep (Nat.le_refl _) HBR.out).cell hkX
      obtain ⟨a0, ha⟩ : ∃ t, t = X[k0] := ⟨_, rfl⟩
      rw [← ha] at p0
      obtain ⟨⟨⟨j0, j1, j2⟩, je⟩, hj⟩ : ∃ z, z = oneA a0 := ⟨_, rfl⟩
      have HAJ := Lib.hid (show ∀ W, Calls Tryz.prog 75 #[.int .i64 a0] W (fun e w' => e = .returned (.tuple #[.agg #[.int .i64 j0, .int .i64 j1, .int .i64 j2], .int .i64 je]) ∧ Below W.heap.size W w') from fun W => by
        have h := one_any a0 W
        unfold Ans at h
        rw [← hj] at h
        exact h)
      have HJA := Lib.hid (show onesG (X.take (k0 + 1)) = onesG (X.take k0) ++ [(j0, j1, j2)] by rw [onesG_snoc X k0 hkX, ← ha, ← hj]; rfl)
      have HLT := Lib.hid hlt
      clear ha hj hlt
      go_wp2_with fail
      go_at_call 75
      refine (HAJ.out _).mono ?_
      clear HAJ
      intro e wc h
      obtain ⟨he, hbx⟩ := h
      subst he
      have HBX9 := Lib.hid (HBXR.out.keep hbx)
      have HOV9 := Lib.hid (own_below3 HOV.out hbx)
      have HN9 := Lib.hid (HNR.out.trans (Near.of (k := g) hbx hlr))
      have hlc : wl.heap.size ≤ wc.heap.size := by have := hbx.size; omega
      clear hbx p0
      go_upto_region 9 with fail
      obtain ⟨wd, hwd⟩ : ∃ wd, wd = wc.alloc (.cells #[.int .i64 j0, .int .i64 j1, .int .i64 j2] 64) := ⟨_, rfl⟩
      have hbd : Below wc.heap.size wc wd := by rw [hwd]; exact bpush (Below.refl _ _) _
      obtain ⟨f0, f1, f2, ff⟩ := made_three wc 64 wd hwd
      rw [← hwd]
      clear hwd ff
      have HBX9 := Lib.hid (HBX9.out.keep hbd)
      have HOV9 := Lib.hid (own_below3 HOV9.out hbd)
      have HN9 := Lib.hid (HN9.out.trans (Near.of (k := g) hbd hlc))
      have hld : wl.heap.size ≤ wd.heap.size := by have := hbd.size; omega
      clear hbd
      obtain ⟨e0, e1, e2, e3, ef⟩ := HBX9.out
      go_wp2_with (at_builtin; refine wpList_append_own_at _ rfl _ _ 57 rfl wl.heap.size 64 i0 (.agg #[.int .i64 0, .int .i64 0, .int .i64 0]) 3 24 Tryz.underlying57 hi0 hz0 hz1 hz2 rfl (by decide) v k0 (cellsG (onesG (X.take k0))) rfl (HOV9.out.alloc _) ⟨wd.heap.size, 0, none⟩ 1 1 [.int .i64 j0, .int .i64 j1, .int .i64 j2] rfl rfl (Row.made rfl rfl).at' (by intro u hu; simp at hu; rcases hu with rfl | rfl | rfl <;> rfl) (by unfold maxLen; have := HS2.out; have := HLT.out; omega) (by have := HS2.out; have := HLT.out; omega) (by simp; omega) ?_)
      intro v5 w5 ho5 hg5 _ hd5
      have ho6 : w5.ownsRow wl.heap.size 64 3 v5 (k0 + 1) (cellsG (onesG (X.take (k0 + 1)))) := by rw [HJA.out, cellsG_app]; exact ho5
      obtain ⟨hl5, A5, c5, rfl, hr5, hm5, hx5, hy5⟩ := own_slice3 ho6
      clear hl5 hr5 hm5 hx5 hy5 ho5
      have hb5 : Below wl.heap.size (wd.alloc (.cells #[.int .i64 j0, .int .i64 j1, .int .i64 j2] 64)) w5 := grown_own3 (HOV9.out.alloc _) hg5 (by simp; omega)
      have hvg : v.ownBlock ≠ some g := own_apart HOV9.out hgl
      have HB5 := Lib.hid ((HBX9.out.keep (bpush (Below.refl _ _) (.cells #[.int .i64 j0, .int .i64 j1, .int .i64 j2] 64))).grown hg5 hvg)
      have HN5 := Lib.hid (((HN9.out.trans (Near.of (k := g) (bpush (Below.refl _ _) (.cells #[.int .i64 j0, .int .i64 j1, .int .i64 j2] 64)) hld)).trans (Near.of (k := g) hb5 (Nat.le_refl _))).set (b := g) (o := 3) (.inl rfl) (.slice A5 (k0 + 1) c5))
      have HO5 := Lib.hid (own_set' (o := 3) (u := .slice A5 (k0 + 1) c5) ho6 (own_apart ho6 hgl))
      clear ho6 hg5 hd5 hb5 hvg e0 e1 e2 e3 ef
      obtain ⟨e0, e1, e2, e3, ef⟩ := HB5.out
      go_wp2_with fail
      go_roundw
      case rel => exact ⟨k0 + 1, .slice A5 (k0 + 1) c5, by go_num, by have := HLT.out; omega, HO5, Lib.hid (HB5.out.set3 _), HN5⟩
      case measure => have := HLT.out; simp [intOf]; omega
end Go.Proofs.YtmmeekmiildliaaGreatDoor
