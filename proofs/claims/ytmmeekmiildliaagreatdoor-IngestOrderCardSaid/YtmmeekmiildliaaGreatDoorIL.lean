/- Add (18). -/
import Derived.Test.YtmmeekmiildliaaGreatDoorIJ
import Derived.Test.YtmmeekmiildliaaGreatDoorIK
import Derived.Test.YtmmeekmiildliaaGreatDoorID
namespace Go.Proofs.YtmmeekmiildliaaGreatDoor
open Go.RowKit Go.Maps
set_option linter.unusedSimpArgs false
set_option linter.unusedVariables false
theorem vz_inj0 {c d : Value} (h : DataW.held (H := Value) c = .held d) : c = d := by injection h
theorem owned_set1 {B b o : Nat} {W : World} {z : RZ} {cs : Array Value} (h : Owned B W z) (hb : Blk W b 59 cs) (u : Value) : Owned B (W.setCell ⟨b, o, none⟩ u) z :=
  ⟨own_set' h.d (h.d.not_blk hb (by decide)), own_set' h.g (h.g.not_blk hb (by decide)), h.sd, h.sg⟩
theorem owned_set4 {B b : Nat} {W : World} {z : RZ} {cs : Array Value} (h : Owned B W z) (hb : Blk W b 59 cs) (u0 u1 u2 u3 : Value) :
    Owned B ((((W.setCell ⟨b, 0, none⟩ u0).setCell ⟨b, 1, none⟩ u1).setCell ⟨b, 2, none⟩ u2).setCell ⟨b, 3, none⟩ u3) z :=
  owned_set1 (owned_set1 (owned_set1 (owned_set1 h hb u0) (hb.set_ 0 u0) u1) ((hb.set_ 0 u0).set_ 1 u1) u2) (((hb.set_ 0 u0).set_ 1 u1).set_ 2 u2) u3
set_option maxRecDepth 100000 in
set_option maxHeartbeats 16000000 in
theorem add_any (B bx mb nn : Nat) (g : Int) (L M : List ByteArray) (V : List RV) (E F : Option Addr) (p q x y : Nat) (t : Int) (D : List ByteArray) (X : List Int) (w : World) (h : Ix w B bx mb g L M V nn) (hn : nn ≤ 100000) (hT : Tab w)
    (hE : Row w E (texts D)) (hF : Row w F (X.map (Value.int .i64))) (hp : p = D.length) (hx : x = X.length) (hD : ∀ s ∈ D, s.size ≤ 9223372036854775807) (hpq : p ≤ q) (hen : E = none → q = 0) (hs1 : p * 16 ≤ 140737488355328) (hs2 : x * 24 ≤ 140737488355328) (v : Int) (hv : CheckIs L M D X t v) :
    Calls Tryz.prog 18 #[.pointer (some ⟨bx, 0, none⟩), .agg #[.int .i64 t, .slice E p q, .slice F x y]] w (AddPost w B bx mb nn g L M V (addR V v (rowX t g D X))) := by
  have HI := Lib.hid h
  obtain ⟨sA, sn, sc, sE, sm, sd, hblk, hoA, hoE⟩ := h.blk
  obtain ⟨W1, hW1⟩ : ∃ W1, W1 = w.alloc (.cells #[.int .i64 t, .slice E p q, .slice F x y] 29) := ⟨_, rfl⟩
  have hb1 : Below w.heap.size w W1 := by rw [hW1]; exact bpush (Below.refl _ _) _
  have he1 : Blk W1 w.heap.size 29 #[.int .i64 t, .slice E p q, .slice F x y] := by rw [hW1]; exact Blk.new w 29 _
  have HCEL := Lib.hid (fun W (hW : Below W1.heap.size W1 W) => show (W.cell? ⟨bx, 0, none⟩ = some (.slice sA sn sc) ∧ W.cell? ⟨bx, 1, none⟩ = some (.slice sE sm sd) ∧ W.cell? ⟨bx, 2, none⟩ = some (.int .i64 g) ∧ W.cell? ⟨bx, 3, none⟩ = some (.map (some mb)) ∧ W.cell? ⟨bx, 4, none⟩ = some (.int .i64 (nn : Nat))) ∧ (W.cell? ⟨w.heap.size, 0, none⟩ = some (.int .i64 t) ∧ W.cell? ⟨w.heap.size, 1, none⟩ = some (.slice E p q) ∧ W.cell? ⟨w.heap.size, 2, none⟩ = some (.slice F x y)) from by
    have hk := hblk.grown (grown_none (bthen hb1 hW)) (by simp)
    have hk2 := he1.grown (grown_none hW) (by simp)
    exact ⟨⟨blk_get hk rfl, blk_get hk rfl, blk_get hk rfl, blk_get hk rfl, blk_get hk rfl⟩, blk_get hk2 rfl, blk_get hk2 rfl, blk_get hk2 rfl⟩)
  obtain ⟨nA, cA, eA, hrA, hcA, haA⟩ := own_slice hoA
  cases eA
  obtain ⟨nE, cE, eE, hrE, hcE, haE⟩ := own_slice hoE
  cases eE
  have hln : sn = L.length := by have := hoA.1; simpa [texts] using this.symm
  have hlm : sm = M.length := by have := hoE.1; simpa [texts] using this.symm
  have HOF := Lib.hid (fun W (hW : Below W1.heap.size W1 W) => show Calls Tryz.prog 43 #[.agg #[.slice sA sn sc, .slice sE sm sd], .agg #[.int .i64 t, .slice E p q, .slice F x y]] W (FlatPost W (ofR t D X v)) from
    (of_any sA sE E F sn sc sm sd p q x y t L M D X W (hE.keep (Nat.le_refl _) (bthen hb1 hW)) (hF.keep (Nat.le_refl _) (bthen hb1 hW)) hln hlm hp hx hD hpq hen hs1 hs2 v hv).mono fun e w' k => k.flat)
  have HV := Lib.hid hv
  have HB1 := Lib.hid hb1
  have HW1 := Lib.hid hW1
  have HTT := Lib.hid hT
  have hlt := h.lts
  have hlx := h.lx
  have hlm' := h.lm
  have HOA := Lib.hid hoA
  have HOE := Lib.hid hoE
  have HBLK := Lib.hid hblk
  obtain ⟨⟨q0, q1, q2, q3, q4⟩, ⟨f0, f1, f2⟩⟩ := HCEL.out W1 (Below.refl _ _)
  clear h hblk hoA hoE hb1 he1 hW1 hrA hcA haA hrE hcE haE hln hlm hv hE hF hp hx hD hpq hen hs1 hs2 hT
  go_enter Tryz.func18, Tryz.ntmps18
  go_upto_region 3 with fail
  rw [← HW1.out]
  clear q0 q1 q2 q3 q4 f0 f1 f2
  go_cut [5, 6] (fun s5 s6 wx => ∃ (r5 : Nat) (DD : Option Addr) (dn dc : Nat) (GG : Option Addr) (gn gc : Nat) (tz : Int) (Lz : List ByteArray) (uz : Int) (Xz : List Ag), s5 = .pointer (some ⟨r5, 0, none⟩) ∧ s6 = .int .i64 v ∧ Hid (Blk wx r5 59 #[.int .i64 tz, .slice DD dn dc, .int .i64 uz, .slice GG gn gc]) ∧ Hid ((⟨tz, Lz, uz, Xz⟩ : RV) = (ofR t D X v).1) ∧ Hid (Owned w.heap.size wx (⟨DD, dn, dc, GG, gn, gc⟩, ⟨tz, Lz, uz, Xz⟩)) ∧ Hid (W1.heap.size ≤ r5) ∧ Hid (Below W1.heap.size W1 wx))
  case first =>
    have hb9 : Below W1.heap.size W1 W1.drew := below_drewN (Below.refl _ _) 1
    refine wp_region_held_drew (S := fun W => ((W.cell? ⟨bx, 0, none⟩ = some (.slice sA sn sc) ∧ W.cell? ⟨bx, 1, none⟩ = some (.slice sE sm sd) ∧ W.cell? ⟨bx, 2, none⟩ = some (.int .i64 g) ∧ W.cell? ⟨bx, 3, none⟩ = some (.map (some mb)) ∧ W.cell? ⟨bx, 4, none⟩ = some (.int .i64 (nn : Nat))) ∧ (W.cell? ⟨w.heap.size, 0, none⟩ = some (.int .i64 t) ∧ W.cell? ⟨w.heap.size, 1, none⟩ = some (.slice E p q) ∧ W.cell? ⟨w.heap.size, 2, none⟩ = some (.slice F x y))) ∧ Below W1.heap.size W1 W) (by kernel_rfl) (⟨HCEL.out _ hb9, hb9⟩) ?_
    intro hHeld
    refine take_want (i := 0) (v := ?v0k1) rfl (by kernel_rfl) (by kernel_rfl) (by kernel_rfl) (fun _ _ _ h => h) (by rfl) ?y0k1 (by assumption) ?r0k1
    case y0k1 => (intro w hSw; obtain ⟨⟨⟨q0, q1, q2, q3, q4⟩, ⟨f0, f1, f2⟩⟩, -⟩ := hSw; go_simp; all_goals with_reducible rfl)
    (try simp only [Act.put, List.setIfInBounds_toArray, List.set_cons_zero, List.set_cons_succ])
    refine take_want (i := 1) (v := ?v1k1) rfl (by kernel_rfl) (by kernel_rfl) (by kernel_rfl) (fun _ _ _ h => h) (by rfl) ?y1k1 (by assumption) ?r1k1
    case y1k1 => (intro w hSw; obtain ⟨⟨⟨q0, q1, q2, q3, q4⟩, ⟨f0, f1, f2⟩⟩, -⟩ := hSw; go_simp; all_goals with_reducible rfl)
    (try simp only [Act.put, List.setIfInBounds_toArray, List.set_cons_zero, List.set_cons_succ])
    refine take_want (i := 2) (v := ?v2k1) rfl (by kernel_rfl) (by kernel_rfl) (by kernel_rfl) (fun _ _ _ h => h) (by rfl) ?y2k1 (by assumption) ?r2k1
    case y2k1 => (intro w hSw; obtain ⟨⟨⟨q0, q1, q2, q3, q4⟩, ⟨f0, f1, f2⟩⟩, -⟩ := hSw; go_simp; all_goals with_reducible rfl)
    (try simp only [Act.put, List.setIfInBounds_toArray, List.set_cons_zero, List.set_cons_succ])
    refine take_want (i := 3) (v := ?v3k1) rfl (by kernel_rfl) (by kernel_rfl) (by kernel_rfl) (fun _ _ _ h => h) (by rfl) ?y3k1 (by assumption) ?r3k1
    case y3k1 => (intro w hSw; obtain ⟨⟨⟨q0, q1, q2, q3, q4⟩, ⟨f0, f1, f2⟩⟩, -⟩ := hSw; go_simp; all_goals with_reducible rfl)
    (try simp only [Act.put, List.setIfInBounds_toArray, List.set_cons_zero, List.set_cons_succ])
    refine take_want (i := 4) (v := ?v4k1) rfl (by kernel_rfl) (by kernel_rfl) (by kernel_rfl) (fun _ _ _ h => h) (by rfl) ?y4k1 (by assumption) ?r4k1
    case y4k1 => (intro w hSw; obtain ⟨⟨⟨q0, q1, q2, q3, q4⟩, ⟨f0, f1, f2⟩⟩, -⟩ := hSw; go_simp; all_goals with_reducible rfl)
    (try simp only [Act.put, List.setIfInBounds_toArray, List.set_cons_zero, List.set_cons_succ])
    refine wpAnyH_ready (rs := [5, 9]) (by kernel_rfl) (by simp) ?_
    refine AllReadyH.cons rfl (fun K hK => ?_) (AllReadyH.cons rfl (fun K hK => ?_) AllReadyH.nil)
    · go_simp
      (go_at_call 43; refine (HOF.out _ hHeld.2).mono ?_; rintro e w8 ⟨DD, dn, dc, GG, gn, gc, tz, Lz, uz, Xz, rfl, hz2, ho, hb⟩)
      have hk := bthen hHeld.2 hb
      refine hK.out _ _ (⟨HCEL.out _ hk, hk⟩) (fun hHeld => ?_)
      clear hK K
      (try simp only [Act.put, List.setIfInBounds_toArray, List.set_cons_zero, List.set_cons_succ])
      refine take_want (i := 6) (v := ?v6k2) rfl (by kernel_rfl) (by kernel_rfl) (by kernel_rfl) (fun _ _ _ h => h) (by rfl) ?y6k2 (by assumption) ?r6k2
      case y6k2 => (intro w hSw; go_simp; all_goals with_reducible rfl)
      (try simp only [Act.put, List.setIfInBounds_toArray, List.set_cons_zero, List.set_cons_succ])
      refine take_want (i := 7) (v := ?v7k2) rfl (by kernel_rfl) (by kernel_rfl) (by kernel_rfl) (fun _ _ _ h => h) (by rfl) ?y7k2 (by assumption) ?r7k2
      case y7k2 => (intro w hSw; go_simp; all_goals with_reducible rfl)
      (try simp only [Act.put, List.setIfInBounds_toArray, List.set_cons_zero, List.set_cons_succ])
      refine take_want (i := 8) (v := ?v8k2) rfl (by kernel_rfl) (by kernel_rfl) (by kernel_rfl) (fun _ _ _ h => h) (by rfl) ?y8k2 (by assumption) ?r8k2
      case y8k2 => (intro w hSw; go_simp; all_goals with_reducible rfl)
      (try simp only [Act.put, List.setIfInBounds_toArray, List.set_cons_zero, List.set_cons_succ])
      refine wpAnyH_ready (rs := [9]) (by kernel_rfl) (by simp) ?_
      refine AllReadyH.cons rfl (fun K hK => ?_) AllReadyH.nil
      have hge : W1.heap.size ≤ w8.heap.size := hHeld.2.size
      go_simp
      have hk := bpush hHeld.2 (.cells #[.int .i64 0, .slice none 0 0, .int .i64 0, .slice none 0 0] 59)
      refine hK.out _ _ (by first | exact ⟨HCEL.out _ hk, hk⟩ | (simp at hk ⊢; exact ⟨HCEL.out _ hk, hk⟩)) (fun hHeld => ?_)
      clear hK K
      (try simp only [Act.put, List.setIfInBounds_toArray, List.set_cons_zero, List.set_cons_succ])
      obtain ⟨wz, hwz⟩ : ∃ x, x = w8.alloc (.cells #[.int .i64 0, .slice none 0 0, .int .i64 0, .slice none 0 0] 59) := ⟨_, rfl⟩
      have hbz : Below w8.heap.size w8 wz := by rw [hwz]; first | exact bpush (Below.refl _ _) _ | exact below_drewN (bpush (Below.refl _ _) _) 1
      have hbx : Blk wz w8.heap.size 59 #[.int .i64 0, .slice none 0 0, .int .i64 0, .slice none 0 0] := by rw [hwz]; exact Blk.new w8 59 _
      have hzs : wz.heap.size = w8.heap.size + 1 := by rw [hwz]; simp
      rw [← hwz] at hHeld ⊢
      clear hwz hk
      have ho := ho.keep hbz
      have hz1 := HB1.out.size
      have hz2' : W1.drew.heap.size = W1.heap.size := rfl
      have hz3 := hb.size
      have HBX := Lib.hid hbx
      have HO1 := Lib.hid (ho.less (C := w.heap.size) (by omega))
      have HZ2 := Lib.hid hz2
      clear hbx ho hz2
      have e0 := HBX.out.cell 0
      have e1 := HBX.out.cell 1
      have e2 := HBX.out.cell 2
      have e3 := HBX.out.cell 3
      simp at e0 e1 e2 e3
      have ef := HBX.out.frozen
      refine wpAnyH_ready (rs := [10]) (by kernel_rfl) (by simp) ?_
      refine AllReadyH.cons rfl (fun K hK => ?_) AllReadyH.nil
      go_simp
      have hBs := bset (bset (bset (bset hHeld.2 (o := 0) hge (.int .i64 tz)) (o := 1) hge (.slice DD dn dc)) (o := 2) hge (.int .i64 uz)) (o := 3) hge (.slice GG gn gc)
      refine hK.out _ _ (by first | exact ⟨HCEL.out _ hBs, hBs⟩ | (simp at hBs ⊢; exact ⟨HCEL.out _ hBs, hBs⟩)) (fun hHeld2 => ?_)
      clear hK K
      (try simp only [Act.put, List.setIfInBounds_toArray, List.set_cons_zero, List.set_cons_succ])
      have hHeld := hHeld2
      refine take_want (i := 11) (v := ?v11k2) rfl (by kernel_rfl) (by kernel_rfl) (by kernel_rfl) (fun _ _ _ h => h) (by rfl) ?y11k2 (by assumption) ?r11k2
      case y11k2 => (intro w hSw; go_simp; all_goals with_reducible rfl)
      (try simp only [Act.put, List.setIfInBounds_toArray, List.set_cons_zero, List.set_cons_succ])
      refine wpAnyH_done (by kernel_rfl) ?_ _
      go_wp2_with fail
      go_meet
      have hbx2 := (((HBX.out.set_ 0 (.int .i64 tz)).set_ 1 (.slice DD dn dc)).set_ 2 (.int .i64 uz)).set_ 3 (.slice GG gn gc)
      simp at hbx2
      have hod := owned_set4 HO1.out HBX.out (.int .i64 tz) (.slice DD dn dc) (.int .i64 uz) (.slice GG gn gc)
      exact ⟨w8.heap.size, DD, dn, dc, GG, gn, gc, tz, Lz, uz, Xz, rfl, by rw [ofR_err], Lib.hid hbx2, Lib.hid HZ2.out, Lib.hid hod, Lib.hid (show W1.heap.size ≤ w8.heap.size from hge), Lib.hid hHeld2.2⟩
    · have hge : W1.heap.size ≤ W1.heap.size := Nat.le_refl _
      go_simp
      have hk := bpush hHeld.2 (.cells #[.int .i64 0, .slice none 0 0, .int .i64 0, .slice none 0 0] 59)
      refine hK.out _ _ (by first | exact ⟨HCEL.out _ hk, hk⟩ | (simp at hk ⊢; exact ⟨HCEL.out _ hk, hk⟩)) (fun hHeld => ?_)
      clear hK K
      (try simp only [Act.put, List.setIfInBounds_toArray, List.set_cons_zero, List.set_cons_succ])
      obtain ⟨wz, hwz⟩ : ∃ x, x = (W1.alloc (.cells #[.int .i64 0, .slice none 0 0, .int .i64 0, .slice none 0 0] 59)).drew := ⟨_, rfl⟩
      have hbz : Below W1.heap.size W1 wz := by rw [hwz]; first | exact bpush (Below.refl _ _) _ | exact below_drewN (bpush (Below.refl _ _) _) 1
      have hbx : Blk wz W1.heap.size 59 #[.int .i64 0, .slice none 0 0, .int .i64 0, .slice none 0 0] := by rw [hwz]; exact Blk.new W1 59 _
      have hzs : wz.heap.size = W1.heap.size + 1 := by rw [hwz]; simp
      rw [← hwz] at hHeld ⊢
      clear hwz hk
      refine wpAnyH_ready (rs := [5]) (by kernel_rfl) (by simp) ?_
      refine AllReadyH.cons rfl (fun K hK => ?_) AllReadyH.nil
      go_simp
      (go_at_call 43; refine (HOF.out _ hHeld.2).mono ?_; rintro e w8 ⟨DD, dn, dc, GG, gn, gc, tz, Lz, uz, Xz, rfl, hz2, ho, hb⟩)
      have hk := bthen hHeld.2 hb
      refine hK.out _ _ (⟨HCEL.out _ hk, hk⟩) (fun hHeld => ?_)
      clear hK K
      (try simp only [Act.put, List.setIfInBounds_toArray, List.set_cons_zero, List.set_cons_succ])
      refine take_want (i := 6) (v := ?v6k3) rfl (by kernel_rfl) (by kernel_rfl) (by kernel_rfl) (fun _ _ _ h => h) (by rfl) ?y6k3 (by assumption) ?r6k3
      case y6k3 => (intro w hSw; go_simp; all_goals with_reducible rfl)
      (try simp only [Act.put, List.setIfInBounds_toArray, List.set_cons_zero, List.set_cons_succ])
      refine take_want (i := 7) (v := ?v7k3) rfl (by kernel_rfl) (by kernel_rfl) (by kernel_rfl) (fun _ _ _ h => h) (by rfl) ?y7k3 (by assumption) ?r7k3
      case y7k3 => (intro w hSw; go_simp; all_goals with_reducible rfl)
      (try simp only [Act.put, List.setIfInBounds_toArray, List.set_cons_zero, List.set_cons_succ])
      refine take_want (i := 8) (v := ?v8k3) rfl (by kernel_rfl) (by kernel_rfl) (by kernel_rfl) (fun _ _ _ h => h) (by rfl) ?y8k3 (by assumption) ?r8k3
      case y8k3 => (intro w hSw; go_simp; all_goals with_reducible rfl)
      (try simp only [Act.put, List.setIfInBounds_toArray, List.set_cons_zero, List.set_cons_succ])
      have hbx := hbx.grown (grown_none hb) (by simp)
      have hz1 := HB1.out.size
      have hz2' : W1.drew.heap.size = W1.heap.size := rfl
      have hz3 := hb.size
      have HBX := Lib.hid hbx
      have HO1 := Lib.hid (ho.less (C := w.heap.size) (by omega))
      have HZ2 := Lib.hid hz2
      clear hbx ho hz2
      have e0 := HBX.out.cell 0
      have e1 := HBX.out.cell 1
      have e2 := HBX.out.cell 2
      have e3 := HBX.out.cell 3
      simp at e0 e1 e2 e3
      have ef := HBX.out.frozen
      refine wpAnyH_ready (rs := [10]) (by kernel_rfl) (by simp) ?_
      refine AllReadyH.cons rfl (fun K hK => ?_) AllReadyH.nil
      go_simp
      have hBs := bset (bset (bset (bset hHeld.2 (o := 0) hge (.int .i64 tz)) (o := 1) hge (.slice DD dn dc)) (o := 2) hge (.int .i64 uz)) (o := 3) hge (.slice GG gn gc)
      refine hK.out _ _ (by first | exact ⟨HCEL.out _ hBs, hBs⟩ | (simp at hBs ⊢; exact ⟨HCEL.out _ hBs, hBs⟩)) (fun hHeld2 => ?_)
      clear hK K
      (try simp only [Act.put, List.setIfInBounds_toArray, List.set_cons_zero, List.set_cons_succ])
      have hHeld := hHeld2
      refine take_want (i := 11) (v := ?v11k3) rfl (by kernel_rfl) (by kernel_rfl) (by kernel_rfl) (fun _ _ _ h => h) (by rfl) ?y11k3 (by assumption) ?r11k3
      case y11k3 => (intro w hSw; go_simp; all_goals with_reducible rfl)
      (try simp only [Act.put, List.setIfInBounds_toArray, List.set_cons_zero, List.set_cons_succ])
      refine wpAnyH_done (by kernel_rfl) ?_ _
      go_wp2_with fail
      go_meet
      have hbx2 := (((HBX.out.set_ 0 (.int .i64 tz)).set_ 1 (.slice DD dn dc)).set_ 2 (.int .i64 uz)).set_ 3 (.slice GG gn gc)
      simp at hbx2
      have hod := owned_set4 HO1.out HBX.out (.int .i64 tz) (.slice DD dn dc) (.int .i64 uz) (.slice GG gn gc)
      exact ⟨W1.heap.size, DD, dn, dc, GG, gn, gc, tz, Lz, uz, Xz, rfl, by rw [ofR_err], Lib.hid hbx2, Lib.hid HZ2.out, Lib.hid hod, Lib.hid (show W1.heap.size ≤ W1.heap.size from hge), Lib.hid hHeld2.2⟩
  case rest =>
  obtain ⟨r5, DD, dn, dc, GG, gn, gc, tz, Lz, uz, Xz, rfl, rfl, HBX, HZ2, HOD, HGE, HBW⟩ := hcut
  obtain ⟨w2, hw2⟩ : ∃ W, W = wc := ⟨_, rfl⟩
  subst hw2
  by_cases hv0 : v = 0
  case neg =>
    have z1 : (v != 0) = true := by rw [bne_iff_ne]; exact hv0
    have ha : addR V v (rowX t g D X) = (v, V) := by unfold addR; rw [if_neg hv0]
    have HA := Lib.hid ha
    have HV0 := Lib.hid hv0
    clear ha hv0
    go_wp2_with fail
    go_ret
    refine ⟨by rw [HA.out]; rfl, ?_, Kx.of (bthen HB1.out HBW.out)⟩
    rw [HA.out]
    simp only [if_neg HV0.out]
    exact HI.out.keep (bthen HB1.out HBW.out)
  case pos =>
  have HEV := Lib.hid (HV.out.ok hv0)
  have hzz := HZ2.out
  subst hv0
  have hoz : (ofR t D X 0).1 = ⟨t, D, 1, onesG X⟩ := by unfold ofR; rw [if_pos rfl]
  rw [hoz] at hzz
  cases hzz
  have e0 := HBX.out.cell 0
  have ef := HBX.out.frozen
  simp at e0
  have HFL := Lib.hid (fun W => Floor_good t g W (rowX_time HEV.out HI.out.gran))
  clear HZ2 hoz HOF HV
  obtain ⟨⟨q0, q1, q2, q3, q4⟩, ⟨f0, f1, f2⟩⟩ := HCEL.out w2 HBW.out
  go_upto_region 6 with fail
  have HBWD := Lib.hid (show Below W1.heap.size W1 w2.drew from HBW.out.trans (below_drewN (Below.refl _ _) 1))
  have HBXD := Lib.hid (show Blk w2.drew r5 59 #[.int .i64 t, .slice DD dn dc, .int .i64 1, .slice GG gn gc] from HBX.out)
  have HODD := Lib.hid (show Owned w.heap.size w2.drew (⟨DD, dn, dc, GG, gn, gc⟩, ⟨t, D, 1, onesG X⟩) from HOD.out.keep (below_drewN (Below.refl _ _) 1))
  clear q0 q1 q2 q3 q4 f0 f1 f2
  refine wp_region_held_drew (S := fun W => (((W.cell? ⟨bx, 0, none⟩ = some (.slice sA sn sc) ∧ W.cell? ⟨bx, 1, none⟩ = some (.slice sE sm sd) ∧ W.cell? ⟨bx, 2, none⟩ = some (.int .i64 g) ∧ W.cell? ⟨bx, 3, none⟩ = some (.map (some mb)) ∧ W.cell? ⟨bx, 4, none⟩ = some (.int .i64 (nn : Nat))) ∧ (W.cell? ⟨w.heap.size, 0, none⟩ = some (.int .i64 t) ∧ W.cell? ⟨w.heap.size, 1, none⟩ = some (.slice E p q) ∧ W.cell? ⟨w.heap.size, 2, none⟩ = some (.slice F x y))) ∧ Below W1.heap.size W1 W) ∧ ((∃ u, W.cell? ⟨r5, 0, none⟩ = some u) ∧ W.frozen? ⟨r5, 0, none⟩ = false)) (by kernel_rfl) (⟨⟨HCEL.out _ HBWD.out, HBWD.out⟩, ⟨_, e0⟩, ef 0⟩) ?_
  intro hHeld
  refine take_want (i := 0) (v := ?v0k4) rfl (by kernel_rfl) (by kernel_rfl) (by kernel_rfl) (fun _ _ _ h => h) (by rfl) ?y0k4 (by assumption) ?r0k4
  case y0k4 => (intro w hSw; obtain ⟨⟨⟨⟨q0, q1, q2, q3, q4⟩, ⟨f0, f1, f2⟩⟩, -⟩, ⟨⟨pu, p0⟩, pf⟩⟩ := hSw; go_simp; all_goals with_reducible rfl)
  (try simp only [Act.put, List.setIfInBounds_toArray, List.set_cons_zero, List.set_cons_succ])
  refine take_want (i := 1) (v := ?v1k4) rfl (by kernel_rfl) (by kernel_rfl) (by kernel_rfl) (fun _ _ _ h => h) (by rfl) ?y1k4 (by assumption) ?r1k4
  case y1k4 => (intro w hSw; obtain ⟨⟨⟨⟨q0, q1, q2, q3, q4⟩, ⟨f0, f1, f2⟩⟩, -⟩, ⟨⟨pu, p0⟩, pf⟩⟩ := hSw; go_simp; all_goals with_reducible rfl)
  (try simp only [Act.put, List.setIfInBounds_toArray, List.set_cons_zero, List.set_cons_succ])
  refine take_want (i := 2) (v := ?v2k4) rfl (by kernel_rfl) (by kernel_rfl) (by kernel_rfl) (fun _ _ _ h => h) (by rfl) ?y2k4 (by assumption) ?r2k4
  case y2k4 => (intro w hSw; obtain ⟨⟨⟨⟨q0, q1, q2, q3, q4⟩, ⟨f0, f1, f2⟩⟩, -⟩, ⟨⟨pu, p0⟩, pf⟩⟩ := hSw; go_simp; all_goals with_reducible rfl)
  (try simp only [Act.put, List.setIfInBounds_toArray, List.set_cons_zero, List.set_cons_succ])
  refine take_want (i := 3) (v := ?v3k4) rfl (by kernel_rfl) (by kernel_rfl) (by kernel_rfl) (fun _ _ _ h => h) (by rfl) ?y3k4 (by assumption) ?r3k4
  case y3k4 => (intro w hSw; obtain ⟨⟨⟨⟨q0, q1, q2, q3, q4⟩, ⟨f0, f1, f2⟩⟩, -⟩, ⟨⟨pu, p0⟩, pf⟩⟩ := hSw; go_simp; all_goals with_reducible rfl)
  (try simp only [Act.put, List.setIfInBounds_toArray, List.set_cons_zero, List.set_cons_succ])
  refine take_want (i := 4) (v := ?v4k4) rfl (by kernel_rfl) (by kernel_rfl) (by kernel_rfl) (fun _ _ _ h => h) (by rfl) ?y4k4 (by assumption) ?r4k4
  case y4k4 => (intro w hSw; obtain ⟨⟨⟨⟨q0, q1, q2, q3, q4⟩, ⟨f0, f1, f2⟩⟩, -⟩, ⟨⟨pu, p0⟩, pf⟩⟩ := hSw; go_simp; all_goals with_reducible rfl)
  (try simp only [Act.put, List.setIfInBounds_toArray, List.set_cons_zero, List.set_cons_succ])
  refine take_want (i := 5) (v := ?v5k4) rfl (by kernel_rfl) (by kernel_rfl) (by kernel_rfl) (fun _ _ _ h => h) (by rfl) ?y5k4 (by assumption) ?r5k4
  case y5k4 => (intro w hSw; obtain ⟨⟨⟨⟨q0, q1, q2, q3, q4⟩, ⟨f0, f1, f2⟩⟩, -⟩, ⟨⟨pu, p0⟩, pf⟩⟩ := hSw; go_simp; all_goals with_reducible rfl)
  (try simp only [Act.put, List.setIfInBounds_toArray, List.set_cons_zero, List.set_cons_succ])
  refine wpAnyH_ready (rs := [6]) (by kernel_rfl) (by simp) ?_
  refine AllReadyH.cons rfl (fun K hK => ?_) AllReadyH.nil
  go_simp
  (go_at_call 44; refine (HFL.out _).mono ?_; rintro e x6 ⟨rfl, rfl⟩)
  refine hK.out _ _ (hHeld) (fun hHeld => ?_)
  clear hK K
  (try simp only [Act.put, List.setIfInBounds_toArray, List.set_cons_zero, List.set_cons_succ])
  refine take_want (i := 7) (v := ?v7k4) rfl (by kernel_rfl) (by kernel_rfl) (by kernel_rfl) (fun _ _ _ h => h) (by rfl) ?y7k4 (by assumption) ?r7k4
  case y7k4 => (intro w hSw; go_simp; all_goals with_reducible rfl)
  (try simp only [Act.put, List.setIfInBounds_toArray, List.set_cons_zero, List.set_cons_succ])
  refine take_want (i := 8) (v := ?v8k4) rfl (by kernel_rfl) (by kernel_rfl) (by kernel_rfl) (fun _ _ _ h => h) (by rfl) ?y8k4 (by assumption) ?r8k4
  case y8k4 => (intro w hSw; go_simp; all_goals with_reducible rfl)
  (try simp only [Act.put, List.setIfInBounds_toArray, List.set_cons_zero, List.set_cons_succ])
  refine take_want (i := 9) (v := ?v9k4) rfl (by kernel_rfl) (by kernel_rfl) (by kernel_rfl) (fun _ _ _ h => h) (by rfl) ?y9k4 (by assumption) ?r9k4
  case y9k4 => (intro w hSw; go_simp; all_goals with_reducible rfl)
  (try simp only [Act.put, List.setIfInBounds_toArray, List.set_cons_zero, List.set_cons_succ])
  refine take_want (i := 10) (v := ?v10k4) rfl (by kernel_rfl) (by kernel_rfl) (by kernel_rfl) (fun _ _ _ h => h) (by rfl) ?y10k4 (by assumption) ?r10k4
  case y10k4 => (intro w hSw; go_simp; all_goals with_reducible rfl)
  (try simp only [Act.put, List.setIfInBounds_toArray, List.set_cons_zero, List.set_cons_succ])
  refine wpAnyH_ready (rs := [11]) (by kernel_rfl) (by simp) ?_
  refine AllReadyH.cons rfl (fun K hK => ?_) AllReadyH.nil
  go_simp
  obtain ⟨w3, hw3⟩ : ∃ x, x = (w2.setCell ⟨r5, 0, none⟩ (.int .i64 (flr t g))).drew := ⟨_, rfl⟩
  have hBs : Below W1.heap.size W1 w3 := by rw [hw3]; exact bset hHeld.1.2 (b := r5) (o := 0) HGE.out (.int .i64 (flr t g))
  have hEs : Blk w3 r5 59 #[.int .i64 (flr t g), .slice DD dn dc, .int .i64 1, .slice GG gn gc] := by have h := HBX.out.set_ 0 (.int .i64 (flr t g)); simp at h; rw [hw3]; exact h
  have hOs : Owned w.heap.size w3 (⟨DD, dn, dc, GG, gn, gc⟩, ⟨t, D, 1, onesG X⟩) := by rw [hw3]; exact (owned_set1 (o := 0) HOD.out HBX.out (.int .i64 (flr t g))).keep (below_drewN (Below.refl _ _) 1)
  have hEc := hEs.cell 0
  have hEf := hEs.frozen 0
  simp at hEc
  rw [← hw3]
  refine hK.out _ _ ⟨⟨HCEL.out _ hBs, hBs⟩, ⟨_, hEc⟩, hEf⟩ (fun hHeld2 => ?_)
  clear hK K
  (try simp only [Act.put, List.setIfInBounds_toArray, List.set_cons_zero, List.set_cons_succ])
  have hHeld := hHeld2
  refine wpAnyH_done (by kernel_rfl) ?_ _
  have HB3 := Lib.hid hBs
  have HX3 := Lib.hid hEs
  have HO3 := Lib.hid (show Owned w.heap.size w3 (⟨DD, dn, dc, GG, gn, gc⟩, rowX t g D X) from ⟨hOs.d, hOs.g, hOs.sd, hOs.sg⟩)
  have HOK := Lib.hid (rowX_ok HEV.out HI.out.gran)
  have HTB3 := Lib.hid (HTT.out.keep (bthen HB1.out hBs))
  obtain ⟨r, hr⟩ : ∃ r, r = rowX t g D X := ⟨_, rfl⟩
  have HRX := Lib.hid hr
  rw [← hr] at HO3 HOK ⊢
  obtain ⟨sK, hsK⟩ : ∃ s : ByteArray, s = ⟨(keyB r).toArray⟩ := ⟨_, rfl⟩
  have hdl : r.dims.length ≤ 6 := by rw [HOK.out.d.len]; exact HI.out.sch.2.1
  have HKY := Lib.hid (show Calls Tryz.prog 45 #[.agg #[.int .i64 (flr t g), .slice DD dn dc, .int .i64 1, .slice GG gn gc]] w3 (fun e w' => e = .returned (.string sK) ∧ Below w3.heap.size w3 w') from by
    have h := key_any (⟨DD, dn, dc, GG, gn, gc⟩, r) w3 HO3.out.good (by have h1 := HOK.out.d.len; have h2 := HI.out.sch.1; show 1 ≤ r.dims.length; omega) (by show r.dims.length ≤ 1000; omega) ⟨HOK.out.d.t, by show r.t ≤ _; rw [hr]; show flr t g ≤ _; have := HEV.out.t1; have h2 := (flr_bd (t := t) HI.out.gran.1).1; omega⟩ (fun s hs => (HOK.out.d.vals s hs).1) HTB3.out
    rw [← hsK] at h
    rw [hr] at h
    exact h)
  have hks : sK.size ≤ 200 := by
    rw [hsK]
    show (keyB r).length ≤ 200
    unfold keyB
    rw [List.length_append, List.length_cons]
    have h1 := Lib.itoa_length_le r.t (by have := HOK.out.d.t; omega) (by rw [hr]; show flr t g ≤ _; have := HEV.out.t1; have h2 := (flr_bd (t := t) HI.out.gran.1).1; omega)
    have h2 := join_len r.dims (fun s hs => (HOK.out.d.vals s hs).1)
    omega
  have HKE := Lib.hid (show keyOf Tryz.prog 9 (.string sK) = some (.string (keyB r)) by
    rw [WideMaps.keyOf_string_mk Tryz.underlying9 (by unfold maxLen; omega), hsK])
  clear hBs hEs hOs hEc hEf hHeld hHeld2 hw3 HBXD HODD e0 ef hr hsK hks hdl HFL
  obtain ⟨DM, Z, hown, hMD, hIV, hOw⟩ := HI.out.rows
  have e0 := HX3.out.cell 0
  have e1 := HX3.out.cell 1
  have e2 := HX3.out.cell 2
  have e3 := HX3.out.cell 3
  simp at e0 e1 e2 e3
  go_upto_region 8 with (go_at_call 45; refine HKY.out.mono ?_; rintro e w5 ⟨rfl, hb⟩; have HB5 := Lib.hid (bthen HB3.out hb); have HX5 := Lib.hid (HX3.out.grown (grown_none hb) (by simp)); have HO5 := Lib.hid (HO3.out.keep hb); clear hb)
  have HOW := Lib.hid (hown.kept (grown_none (bthen HB1.out HB5.out)) (by simp))
  have HMD := Lib.hid hMD
  have HIV := Lib.hid hIV
  have HOZ := Lib.hid (fun z (hz : z ∈ Z) => (hOw z hz).keep (bthen HB1.out HB5.out))
  clear hown hMD hIV hOw e0 e1 e2 e3 HKY
  obtain ⟨⟨q0, q1, q2, q3, q4⟩, ⟨f0, f1, f2⟩⟩ := HCEL.out w5 HB5.out
  by_cases hex : ∃ y ∈ Z, keyB y.2 = keyB r
  case neg =>
    have hhas : has DM (.string (keyB r)) = false := by
      cases hc : has DM (.string (keyB r)) with
      | false => rfl
      | true => exact absurd ((HMD.out.has _).1 hc) hex
    have HNO := Lib.hid hex
    have HHAS := Lib.hid hhas
    clear hex hhas
    obtain ⟨v', ps, hrun, hv'⟩ := HOW.out.look_ok (string_keyed Tryz.underlying9) Tryz.underlying71 (Tryz.zeroValue59 w5) (R := RM) rfl HKE.out
    obtain rfl : v' = .agg #[.int .i64 0, .slice none 0 0, .int .i64 0, .slice none 0 0] := vz_inj0 (by have h1 := Option.some.inj hv'; have h2 := congrArg Prod.fst h1; rw [atKey_of_not_has HHAS.out] at h2; exact h2)
    rw [HHAS.out] at hrun
    clear hv'
    go_upto_region 13 with fail
    have hbz : Below w5.heap.size w5 (w5.alloc (.cells #[.int .i64 0, .slice none 0 0, .int .i64 0, .slice none 0 0] 59)) := bpush (Below.refl _ _) _
    have hid1 := HIV.out.new (z := (⟨DD, dn, dc, GG, gn, gc⟩, r)) (fun a ha => (HI.out.ok a ha).r) HOK.out.r (fun y hy e => HNO.out ⟨y, hy, key_same e⟩)
    have HIK := Lib.hid hid1.1
    have HIV2 := Lib.hid hid1.2
    have HMP := Lib.hid (HMD.out.put_new (z := (⟨DD, dn, dc, GG, gn, gc⟩, r)) (HOW.out.tidy (string_keyed Tryz.underlying9)) (fun y hy e => HNO.out ⟨y, hy, e⟩))
    have HMEM := Lib.hid (fun z (hz : z ∈ Z ++ [(⟨DD, dn, dc, GG, gn, gc⟩, r)]) => show z ∈ Z ∨ z = (⟨DD, dn, dc, GG, gn, gc⟩, r) from (List.mem_append.1 hz).imp id List.mem_singleton.1)
    have HOKZ := Lib.hid (show OkX L.length M.length ((⟨DD, dn, dc, GG, gn, gc⟩, r) : RZ).2 from HOK.out)
    have HVZ := Lib.hid (show Value.agg #[.int .i64 (flr t g), .slice DD dn dc, .int .i64 1, .slice GG gn gc] = vz (⟨DD, dn, dc, GG, gn, gc⟩, r) by rw [HRX.out]; rfl)
    obtain ⟨w7, hw7⟩ : ∃ W, W = w5.alloc (.cells #[.int .i64 0, .slice none 0 0, .int .i64 0, .slice none 0 0] 59) := ⟨_, rfl⟩
    rw [← hw7] at hbz ⊢
    have HB7 := Lib.hid (HB5.out.trans (hbz.mono HB5.out.size))
    have HX7 := Lib.hid (HX5.out.grown (grown_none hbz) (by simp))
    have HOZ7 := Lib.hid (HO5.out.keep hbz)
    have HOW7 := Lib.hid (HOW.out.kept (grown_none hbz) (by simp))
    have HOld7 := Lib.hid (fun z (hz : z ∈ Z) => (HOZ.out z hz).keep hbz)
    clear hbz hw7 hid1 q0 q1 q2 q3 q4 f0 f1 f2 hrun HO5 HX5
    have HBW7 := Lib.hid (show Below w.heap.size w w7.drew from (bthen HB1.out HB7.out).trans (below_drewN (Below.refl _ _) 1))
    have HBK7 := Lib.hid (show Blk w7.drew bx 73 #[.slice sA sn sc, .slice sE sm sd, .int .i64 g, .map (some mb), .int .i64 (nn : Nat)] from HBLK.out.grown (grown_none HBW7.out) (by simp))
    have HMM7 := Lib.hid (show ∃ es cl, w7.drew.heap[mb]? = some (.map es cl) from by
      obtain ⟨es, cl, hm0, _⟩ := HOW7.out
      exact ⟨es, cl, hm0⟩)
    have hne : bx ≠ mb := fun e => by
      obtain ⟨es, cl, hm0⟩ := HMM7.out
      have hk := HBK7.out
      rw [Blk, e, hm0] at hk; cases hk
    have hnr : r5 ≠ mb := fun e => by
      obtain ⟨es, cl, hm0⟩ := HMM7.out
      have hk : Blk w7.drew r5 59 _ := HX7.out
      rw [Blk, e, hm0] at hk; cases hk
    obtain ⟨w8, hrun8, hown8, hgr8⟩ := (show w7.drew.ownsMap (H := Value) Tryz.prog 9 RM mb nn DM from HOW7.out).update (string_keyed Tryz.underlying9) Tryz.underlying71 (by unfold maxLen; omega) HKE.out (val := .agg #[.int .i64 (flr t g), .slice DD dn dc, .int .i64 1, .slice GG gn gc]) (R := RM) rfl
    have HBK8 := Lib.hid (HBK7.out.grown hgr8 (fun e => hne (Option.some.inj e).symm))
    have HX8 := Lib.hid ((show Blk w7.drew r5 59 #[.int .i64 (flr t g), .slice DD dn dc, .int .i64 1, .slice GG gn gc] from HX7.out).grown hgr8 (fun e => hnr (Option.some.inj e).symm))
    have HOWN8 := Lib.hid hown8
    have HGR8 := Lib.hid hgr8
    clear hown8 hgr8
    refine wp_region_held_drew (S := fun W => W.cell? ⟨bx, 3, none⟩ = some (.map (some mb)) ∧ W.cell? ⟨r5, 0, none⟩ = some (.int .i64 (flr t g)) ∧ W.cell? ⟨r5, 1, none⟩ = some (.slice DD dn dc) ∧ W.cell? ⟨r5, 2, none⟩ = some (.int .i64 1) ∧ W.cell? ⟨r5, 3, none⟩ = some (.slice GG gn gc)) (by kernel_rfl) (⟨blk_get HBK7.out rfl, blk_get HX7.out rfl, blk_get HX7.out rfl, blk_get HX7.out rfl, blk_get HX7.out rfl⟩) ?_
    intro hHeld
    refine take_want (i := 0) (v := ?v0k5) rfl (by kernel_rfl) (by kernel_rfl) (by kernel_rfl) (fun _ _ _ h => h) (by rfl) ?y0k5 (by assumption) ?r0k5
    case y0k5 => (intro w hSw; obtain ⟨g0, g1, g2, g3, g4⟩ := hSw; go_simp; all_goals with_reducible rfl)
    (try simp only [Act.put, List.setIfInBounds_toArray, List.set_cons_zero, List.set_cons_succ])
    refine take_want (i := 1) (v := ?v1k5) rfl (by kernel_rfl) (by kernel_rfl) (by kernel_rfl) (fun _ _ _ h => h) (by rfl) ?y1k5 (by assumption) ?r1k5
    case y1k5 => (intro w hSw; obtain ⟨g0, g1, g2, g3, g4⟩ := hSw; go_simp; all_goals with_reducible rfl)
    (try simp only [Act.put, List.setIfInBounds_toArray, List.set_cons_zero, List.set_cons_succ])
    refine take_want (i := 2) (v := ?v2k5) rfl (by kernel_rfl) (by kernel_rfl) (by kernel_rfl) (fun _ _ _ h => h) (by rfl) ?y2k5 (by assumption) ?r2k5
    case y2k5 => (intro w hSw; obtain ⟨g0, g1, g2, g3, g4⟩ := hSw; go_simp; all_goals with_reducible rfl)
    (try simp only [Act.put, List.setIfInBounds_toArray, List.set_cons_zero, List.set_cons_succ])
    refine take_want (i := 3) (v := ?v3k5) rfl (by kernel_rfl) (by kernel_rfl) (by kernel_rfl) (fun _ _ _ h => h) (by rfl) ?y3k5 (by assumption) ?r3k5
    case y3k5 => (intro w hSw; obtain ⟨g0, g1, g2, g3, g4⟩ := hSw; go_simp; all_goals with_reducible rfl)
    (try simp only [Act.put, List.setIfInBounds_toArray, List.set_cons_zero, List.set_cons_succ])
    refine take_want (i := 4) (v := ?v4k5) rfl (by kernel_rfl) (by kernel_rfl) (by kernel_rfl) (fun _ _ _ h => h) (by rfl) ?y4k5 (by assumption) ?r4k5
    case y4k5 => (intro w hSw; obtain ⟨g0, g1, g2, g3, g4⟩ := hSw; go_simp; all_goals with_reducible rfl)
    (try simp only [Act.put, List.setIfInBounds_toArray, List.set_cons_zero, List.set_cons_succ])
    refine take_want (i := 5) (v := ?v5k5) rfl (by kernel_rfl) (by kernel_rfl) (by kernel_rfl) (fun _ _ _ h => h) (by rfl) ?y5k5 (by assumption) ?r5k5
    case y5k5 => (intro w hSw; obtain ⟨g0, g1, g2, g3, g4⟩ := hSw; go_simp; all_goals with_reducible rfl)
    (try simp only [Act.put, List.setIfInBounds_toArray, List.set_cons_zero, List.set_cons_succ])
    refine wpAnyH_ready (rs := [6]) (by kernel_rfl) (by simp) ?_
    refine AllReadyH.cons rfl (fun K hK => ?_) AllReadyH.nil
    go_simp
    try (rw [hrun8]; simp only [Result.andThen]; rw [Oper.upon_value])
    refine hK.out _ _ ⟨blk_get HBK8.out rfl, blk_get HX8.out rfl, blk_get HX8.out rfl, blk_get HX8.out rfl, blk_get HX8.out rfl⟩ (fun hHeld8 => ?_)
    clear hK K
    (try simp only [Act.put, List.setIfInBounds_toArray, List.set_cons_zero, List.set_cons_succ])
    refine wpAnyH_done (by kernel_rfl) ?_ _
    have c4 : w8.cell? ⟨bx, 4, none⟩ = some (.int .i64 (nn : Nat)) := blk_get HBK8.out rfl
    have cf4 := HBK8.out.frozen 4
    have jw : IntKind.i64.wrap ((nn : Int) + 1) = (nn : Int) + 1 := IntWalk.i64_in _ (by omega)
    have hlx' : bx < w.heap.size := hlt.1
    clear hHeld8 hrun8
    try clear hHeld
    go_wp2_with fail
    obtain ⟨w9, hw9⟩ : ∃ W, W = w8.setCell ⟨bx, 4, none⟩ (.int .i64 ((nn : Int) + 1)) := ⟨_, rfl⟩
    have hk9 : Blk w9 bx 73 #[.slice sA sn sc, .slice sE sm sd, .int .i64 g, .map (some mb), .int .i64 ((nn + 1 : Nat) : Int)] := by
      have hk := HBK8.out.set_ 4 (.int .i64 ((nn : Int) + 1))
      simp at hk
      rw [hw9]
      have e : ((nn + 1 : Nat) : Int) = (nn : Int) + 1 := by omega
      rw [e]; exact hk
    have hx79 : Kx bx mb w7.drew w9 := by rw [hw9]; exact (Kx.map HGR8.out).trans Kx.cell
    have hx9 : Kx bx mb w w9 := (Kx.of HBW7.out).trans hx79
    have hgs : w8.grownBy w9 (some bx) := by rw [hw9]; exact ⟨rfl, rfl, rfl, by simp [World.setCell], fun i hi hne => Below.heap_setCell w8 _ _ i (fun e => hne (by rw [e]))⟩
    have ho9 : w9.ownsMap (H := Value) Tryz.prog 9 RM mb (nn + 1) (DM.put (.string (keyB r)) (.held (vz (⟨DD, dn, dc, GG, gn, gc⟩, r)))) := by
      have h8 := HOWN8.out
      rw [HVZ.out] at h8
      exact h8.kept hgs (fun e => hne (Option.some.inj e).symm)
    obtain ⟨es0, cl0, hm0⟩ := HI.out.map
    obtain ⟨es7, cl7, hm7⟩ := HMM7.out
    have HIX := Lib.hid (show Ix w9 B bx mb g L M (insK V r).1 (nn + 1) from
      ⟨HI.out.sch, HI.out.gran, ⟨sA, sn, sc, sE, sm, sd, hk9, hx9.own HOA.out (HOA.out.not_blk HBLK.out (by decide)) (own_not_map HOA.out hm0), hx9.own HOE.out (HOE.out.not_blk HBLK.out (by decide)) (own_not_map HOE.out hm0)⟩,
       ⟨_, _, ho9, HMP.out, HIV2.out, fun z hz => by
          rcases HMEM.out z hz with h1 | h1
          · exact owned_kx hx79 ((HOld7.out z h1).keep (below_drewN (Below.refl _ _) 1)) HBK7.out hm7
          · rw [h1]; exact owned_kx hx79 ((HOZ7.out.keep (below_drewN (Below.refl _ _) 1)).less (by omega)) HBK7.out hm7⟩,
       okx_mem HIV.out HIV2.out HI.out.ok (fun z hz => (HMEM.out z hz).imp id (fun e => by rw [e]; exact HOKZ.out)), hlx, hlm'⟩)
    have HKX := Lib.hid hx9
    rw [← hw9]
    clear hw9 hk9 hx79 hx9 hgs ho9
    go_wp2_with fail
    go_ret
    have har : addR V 0 (rowX t g D X) = (0, (insK V r).1) := by
      rw [← HRX.out]
      unfold addR
      rw [if_pos rfl, if_pos HIK.out]
    refine ⟨by rw [har]; rfl, ?_, HKX.out⟩
    rw [har]
    exact HIX.out
  case pos =>
    obtain ⟨y, hy, hyk⟩ := hex
    obtain ⟨PA, PB, hZ⟩ := List.append_of_mem hy
    have hhas : has DM (.string (keyB r)) = true := (HMD.out.has _).2 ⟨y, hy, hyk⟩
    have hat := HMD.out.at_ y hy
    rw [hyk] at hat
    have hyx := HI.out.ok _ (HIV.out.mem hy)
    have hcm : cmpV y.2 r = 0 := key_inj hyx.d HOK.out.d hyk
    have HYX := Lib.hid hyx
    have HCM := Lib.hid hcm
    have HYK := Lib.hid hyk
    have HGY := Lib.hid (HOZ.out y hy).good
    have HZZ := Lib.hid hZ
    have HOLD := Lib.hid (IxV.old (V := V) (A := PA) (B := PB) (y := y) (x := r) (by rw [← hZ]; exact HIV.out) (fun a ha => (HI.out.ok a ha).r) HOK.out.r hcm)
    obtain ⟨v', ps, hrun, hv'⟩ := HOW.out.look_ok (string_keyed Tryz.underlying9) Tryz.underlying71 (Tryz.zeroValue59 w5) (R := RM) rfl HKE.out
    obtain rfl : v' = vz y := vz_inj0 (by have h1 := Option.some.inj hv'; have h2 := congrArg Prod.fst h1; rw [hat] at h2; exact h2)
    rw [hhas] at hrun
    clear hv' hy hyk hhas hat hyx hcm hZ
    obtain ⟨⟨yD, yn, yc, yG, ygn, ygc⟩, ⟨yt, yL, yu, yX⟩⟩ := y
    simp only [vz, encR_eq] at hrun
    go_upto_region 10 with fail
    obtain ⟨w6, hw6⟩ : ∃ W, W = w5.alloc (.cells #[.int .i64 yt, .slice yD yn yc, .int .i64 yu, .slice yG ygn ygc] 59) := ⟨_, rfl⟩
    have hbz : Below w5.heap.size w5 w6 := by rw [hw6]; exact bpush (Below.refl _ _) _
    have HX6 := Lib.hid (HX5.out.grown (grown_none hbz) (by simp))
    have hy6 : Blk w6 w5.heap.size 59 #[.int .i64 yt, .slice yD yn yc, .int .i64 yu, .slice yG ygn ygc] := by rw [hw6]; exact Blk.new w5 59 _
    rw [← hw6]
    have HB6 := Lib.hid (HB5.out.trans (hbz.mono HB5.out.size))
    obtain ⟨je, hje⟩ : ∃ je, je = (joinR ⟨yt, yL, yu, yX⟩ r).2 := ⟨_, rfl⟩
    have HJE := Lib.hid hje
    have HJN := Lib.hid (show Calls Tryz.prog 46 #[.agg #[.int .i64 yt, .slice yD yn yc, .int .i64 yu, .slice yG ygn ygc], .agg #[.int .i64 (flr t g), .slice DD dn dc, .int .i64 1, .slice GG gn gc]] w6 (fun e w' => ∃ D n c G gn gc t L u X, e = .returned (.tuple #[.agg #[.int .i64 t, .slice D n c, .int .i64 u, .slice G gn gc], .int .i64 je]) ∧ (⟨t, L, u, X⟩ : RV) = (joinR ⟨yt, yL, yu, yX⟩ r).1 ∧ Owned w6.heap.size w' (⟨D, n, c, G, gn, gc⟩, ⟨t, L, u, X⟩) ∧ Below w6.heap.size w6 w') from by
      have h := join_any (⟨yD, yn, yc, yG, ygn, ygc⟩, ⟨yt, yL, yu, yX⟩) (⟨DD, dn, dc, GG, gn, gc⟩, r) w6 (HGY.out.keep hbz) ((HO5.out.keep hbz).good) ⟨HYX.out.r.lo, HYX.out.r.hi⟩ ⟨HOK.out.r.lo, HOK.out.r.hi⟩
      rw [hje]
      have e1 : Value.agg (encR (⟨DD, dn, dc, GG, gn, gc⟩, r)).toArray = .agg #[.int .i64 (flr t g), .slice DD dn dc, .int .i64 1, .slice GG gn gc] := by rw [HRX.out]; rfl
      rw [e1] at h
      exact h.mono fun e w' k => k.flat)
    have HOZ6 := Lib.hid (fun z (hz : z ∈ Z) => (HOZ.out z hz).keep hbz)
    have HOW6 := Lib.hid (HOW.out.kept (grown_none hbz) (by simp))
    have e0 := HX6.out.cell 0
    have e1 := HX6.out.cell 1
    have e2 := HX6.out.cell 2
    have e3 := HX6.out.cell 3
    have d0 := hy6.cell 0
    have d1 := hy6.cell 1
    have d2 := hy6.cell 2
    have d3 := hy6.cell 3
    simp at e0 e1 e2 e3 d0 d1 d2 d3
    clear hw6 hje hy6 q0 q1 q2 q3 q4 f0 f1 f2 hrun hbz
    go_upto_region 11 with (go_at_call 46; refine HJN.out.mono ?_; rintro e wj ⟨jD, jn, jc, jG, jgn, jgc, jt, jL, ju, jX, rfl, hj, ho, hb⟩; have HJ := Lib.hid hj; have HJO := Lib.hid ho; have HJB := Lib.hid hb; have hx7 := HX6.out.grown (grown_none hb) (by simp); have HXX := Lib.hid hx7; have a0 := hx7.cell 0; have a1 := hx7.cell 1; have a2 := hx7.cell 2; have a3 := hx7.cell 3; have af := hx7.frozen; simp at a0 a1 a2 a3; clear hj ho hb hx7)
    have hnr : r5 ≠ mb := fun e => by
      obtain ⟨es, cl, hm0, _⟩ := HOW6.out
      have hk := HX6.out
      rw [Blk, e, hm0] at hk; cases hk
    obtain ⟨w7, hw7⟩ : ∃ W, W = (((wj.setCell ⟨r5, 0, none⟩ (.int .i64 jt)).setCell ⟨r5, 1, none⟩ (.slice jD jn jc)).setCell ⟨r5, 2, none⟩ (.int .i64 ju)).setCell ⟨r5, 3, none⟩ (.slice jG jgn jgc) := ⟨_, rfl⟩
    have hx7 : Blk w7 r5 59 #[.int .i64 jt, .slice jD jn jc, .int .i64 ju, .slice jG jgn jgc] := by
      have hk := (((HXX.out.set_ 0 (.int .i64 jt)).set_ 1 (.slice jD jn jc)).set_ 2 (.int .i64 ju)).set_ 3 (.slice jG jgn jgc)
      simp at hk
      rw [hw7]; exact hk
    have hbj : Below W1.heap.size W1 wj := HB6.out.trans (HJB.out.mono HB6.out.size)
    have HB7 := Lib.hid (show Below W1.heap.size W1 w7 by rw [hw7]; exact bset (bset (bset (bset hbj (b := r5) (o := 0) HGE.out _) (b := r5) (o := 1) HGE.out _) (b := r5) (o := 2) HGE.out _) (b := r5) (o := 3) HGE.out _)
    have HX7 := Lib.hid hx7
    have hws : w.heap.size ≤ w6.heap.size := by have h1 := HB1.out.size; have h2 := HB6.out.size; omega
    have HOZ7 := Lib.hid (show Owned w.heap.size w7 (⟨jD, jn, jc, jG, jgn, jgc⟩, ⟨jt, jL, ju, jX⟩) by rw [hw7]; exact (owned_set4 HJO.out HXX.out _ _ _ _).less hws)
    have HOld7 := Lib.hid (fun z (hz : z ∈ Z) => show Owned B w7 z by rw [hw7]; exact owned_set4 ((HOZ6.out z hz).keep HJB.out) HXX.out _ _ _ _)
    have HOW7 := Lib.hid (show w7.ownsMap (H := Value) Tryz.prog 9 RM mb nn DM by
      rw [hw7]
      have h0 := HOW6.out.kept (grown_none HJB.out) (by simp)
      exact (((h0.setCell (Ne.symm hnr) _).setCell (Ne.symm hnr) _).setCell (Ne.symm hnr) _).setCell (Ne.symm hnr) _)
    rw [← hw7]
    clear hw7 hbj hx7 hws hnr a0 a1 a2 a3 af e0 e1 e2 e3 d0 d1 d2 d3
    by_cases hj0 : je = 0
    case neg =>
      have z1 : (je != 0) = true := by rw [bne_iff_ne]; exact hj0
      have hik := HOLD.out.1 (by rw [← HJE.out]; exact hj0)
      have har : addR V 0 (rowX t g D X) = (je, V) := by
        rw [← HRX.out]
        unfold addR
        rw [if_pos rfl, hik, ← HJE.out]
        simp only [if_neg hj0]
      have HAR := Lib.hid har
      have HJ0 := Lib.hid hj0
      clear har hik hj0
      go_wp2_with fail
      go_ret
      refine ⟨by rw [HAR.out]; rfl, ?_, Kx.of (bthen HB1.out HB7.out)⟩
      rw [HAR.out]
      simp only [if_neg HJ0.out]
      exact HI.out.keep (bthen HB1.out HB7.out)
    case pos =>
    have hk2 := HOLD.out.2 (by rw [← HJE.out]; exact hj0)
    have HIK := Lib.hid hk2.1
    have HIV2 := Lib.hid (hk2.2 (⟨jD, jn, jc, jG, jgn, jgc⟩, ⟨jt, jL, ju, jX⟩) HJ.out)
    have hokz : OkX L.length M.length (⟨jt, jL, ju, jX⟩ : RV) := by rw [HJ.out]; exact okx_join HYX.out HOK.out HCM.out (by rw [← HJE.out]; exact hj0)
    have HOKZ := Lib.hid (show OkX L.length M.length ((⟨jD, jn, jc, jG, jgn, jgc⟩, ⟨jt, jL, ju, jX⟩) : RZ).2 from hokz)
    have hkz : keyB (⟨jt, jL, ju, jX⟩ : RV) = keyB r := by
      rcases joinR_okR HYX.out.r HOK.out.r HCM.out with ⟨_, _, h3⟩ | h1
      · rw [← HYK.out, HJ.out]; exact key_same h3
      · rw [← HJE.out, hj0] at h1; exact absurd h1 (by decide)
    have HMP := Lib.hid (show MapIs (DM.put (.string (keyB r)) (.held (vz (⟨jD, jn, jc, jG, jgn, jgc⟩, ⟨jt, jL, ju, jX⟩)))) (PA ++ (⟨jD, jn, jc, jG, jgn, jgc⟩, ⟨jt, jL, ju, jX⟩) :: PB) by
      have hm := HMD.out
      rw [HZZ.out] at hm
      have hp := hm.put_old (z := (⟨jD, jn, jc, jG, jgn, jgc⟩, ⟨jt, jL, ju, jX⟩)) (HOW7.out.tidy (string_keyed Tryz.underlying9)) (by rw [hkz]; exact HYK.out)
      rw [hkz] at hp
      exact hp)
    have HMEM := Lib.hid (fun z (hz : z ∈ PA ++ (⟨jD, jn, jc, jG, jgn, jgc⟩, ⟨jt, jL, ju, jX⟩) :: PB) => show z ∈ Z ∨ z = (⟨jD, jn, jc, jG, jgn, jgc⟩, ⟨jt, jL, ju, jX⟩) from by
      rw [HZZ.out]
      rcases List.mem_append.1 hz with h1 | h1
      · exact .inl (List.mem_append_left _ h1)
      · rcases List.mem_cons.1 h1 with h2 | h2
        · exact .inr h2
        · exact .inl (List.mem_append_right _ (List.mem_cons_of_mem _ h2)))
    have HVZ := Lib.hid (show Value.agg #[.int .i64 jt, .slice jD jn jc, .int .i64 ju, .slice jG jgn jgc] = vz (⟨jD, jn, jc, jG, jgn, jgc⟩, ⟨jt, jL, ju, jX⟩) from rfl)
    clear hk2 hokz hkz HOLD HJN HX5 HX6 HXX HO5
    subst hj0
    go_upto_region 13 with fail
    have HBW7 := Lib.hid (show Below w.heap.size w w7.drew from (bthen HB1.out HB7.out).trans (below_drewN (Below.refl _ _) 1))
    have HBK7 := Lib.hid (show Blk w7.drew bx 73 #[.slice sA sn sc, .slice sE sm sd, .int .i64 g, .map (some mb), .int .i64 (nn : Nat)] from HBLK.out.grown (grown_none HBW7.out) (by simp))
    have HMM7 := Lib.hid (show ∃ es cl, w7.drew.heap[mb]? = some (.map es cl) from by
      obtain ⟨es, cl, hm0, _⟩ := HOW7.out
      exact ⟨es, cl, hm0⟩)
    have hne : bx ≠ mb := fun e => by
      obtain ⟨es, cl, hm0⟩ := HMM7.out
      have hk := HBK7.out
      rw [Blk, e, hm0] at hk; cases hk
    have hnr : r5 ≠ mb := fun e => by
      obtain ⟨es, cl, hm0⟩ := HMM7.out
      have hk : Blk w7.drew r5 59 _ := HX7.out
      rw [Blk, e, hm0] at hk; cases hk
    obtain ⟨w8, hrun8, hown8, hgr8⟩ := (show w7.drew.ownsMap (H := Value) Tryz.prog 9 RM mb nn DM from HOW7.out).update (string_keyed Tryz.underlying9) Tryz.underlying71 (by unfold maxLen; omega) HKE.out (val := .agg #[.int .i64 jt, .slice jD jn jc, .int .i64 ju, .slice jG jgn jgc]) (R := RM) rfl
    have HBK8 := Lib.hid (HBK7.out.grown hgr8 (fun e => hne (Option.some.inj e).symm))
    have HX8 := Lib.hid ((show Blk w7.drew r5 59 #[.int .i64 jt, .slice jD jn jc, .int .i64 ju, .slice jG jgn jgc] from HX7.out).grown hgr8 (fun e => hnr (Option.some.inj e).symm))
    have HOWN8 := Lib.hid hown8
    have HGR8 := Lib.hid hgr8
    clear hown8 hgr8
    refine wp_region_held_drew (S := fun W => W.cell? ⟨bx, 3, none⟩ = some (.map (some mb)) ∧ W.cell? ⟨r5, 0, none⟩ = some (.int .i64 jt) ∧ W.cell? ⟨r5, 1, none⟩ = some (.slice jD jn jc) ∧ W.cell? ⟨r5, 2, none⟩ = some (.int .i64 ju) ∧ W.cell? ⟨r5, 3, none⟩ = some (.slice jG jgn jgc)) (by kernel_rfl) (⟨blk_get HBK7.out rfl, blk_get HX7.out rfl, blk_get HX7.out rfl, blk_get HX7.out rfl, blk_get HX7.out rfl⟩) ?_
    intro hHeld
    refine take_want (i := 0) (v := ?v0k6) rfl (by kernel_rfl) (by kernel_rfl) (by kernel_rfl) (fun _ _ _ h => h) (by rfl) ?y0k6 (by assumption) ?r0k6
    case y0k6 => (intro w hSw; obtain ⟨g0, g1, g2, g3, g4⟩ := hSw; go_simp; all_goals with_reducible rfl)
    (try simp only [Act.put, List.setIfInBounds_toArray, List.set_cons_zero, List.set_cons_succ])
    refine take_want (i := 1) (v := ?v1k6) rfl (by kernel_rfl) (by kernel_rfl) (by kernel_rfl) (fun _ _ _ h => h) (by rfl) ?y1k6 (by assumption) ?r1k6
    case y1k6 => (intro w hSw; obtain ⟨g0, g1, g2, g3, g4⟩ := hSw; go_simp; all_goals with_reducible rfl)
    (try simp only [Act.put, List.setIfInBounds_toArray, List.set_cons_zero, List.set_cons_succ])
    refine take_want (i := 2) (v := ?v2k6) rfl (by kernel_rfl) (by kernel_rfl) (by kernel_rfl) (fun _ _ _ h => h) (by rfl) ?y2k6 (by assumption) ?r2k6
    case y2k6 => (intro w hSw; obtain ⟨g0, g1, g2, g3, g4⟩ := hSw; go_simp; all_goals with_reducible rfl)
    (try simp only [Act.put, List.setIfInBounds_toArray, List.set_cons_zero, List.set_cons_succ])
    refine take_want (i := 3) (v := ?v3k6) rfl (by kernel_rfl) (by kernel_rfl) (by kernel_rfl) (fun _ _ _ h => h) (by rfl) ?y3k6 (by assumption) ?r3k6
    case y3k6 => (intro w hSw; obtain ⟨g0, g1, g2, g3, g4⟩ := hSw; go_simp; all_goals with_reducible rfl)
    (try simp only [Act.put, List.setIfInBounds_toArray, List.set_cons_zero, List.set_cons_succ])
    refine take_want (i := 4) (v := ?v4k6) rfl (by kernel_rfl) (by kernel_rfl) (by kernel_rfl) (fun _ _ _ h => h) (by rfl) ?y4k6 (by assumption) ?r4k6
    case y4k6 => (intro w hSw; obtain ⟨g0, g1, g2, g3, g4⟩ := hSw; go_simp; all_goals with_reducible rfl)
    (try simp only [Act.put, List.setIfInBounds_toArray, List.set_cons_zero, List.set_cons_succ])
    refine take_want (i := 5) (v := ?v5k6) rfl (by kernel_rfl) (by kernel_rfl) (by kernel_rfl) (fun _ _ _ h => h) (by rfl) ?y5k6 (by assumption) ?r5k6
    case y5k6 => (intro w hSw; obtain ⟨g0, g1, g2, g3, g4⟩ := hSw; go_simp; all_goals with_reducible rfl)
    (try simp only [Act.put, List.setIfInBounds_toArray, List.set_cons_zero, List.set_cons_succ])
    refine wpAnyH_ready (rs := [6]) (by kernel_rfl) (by simp) ?_
    refine AllReadyH.cons rfl (fun K hK => ?_) AllReadyH.nil
    go_simp
    try (rw [hrun8]; simp only [Result.andThen]; rw [Oper.upon_value])
    refine hK.out _ _ ⟨blk_get HBK8.out rfl, blk_get HX8.out rfl, blk_get HX8.out rfl, blk_get HX8.out rfl, blk_get HX8.out rfl⟩ (fun hHeld8 => ?_)
    clear hK K
    (try simp only [Act.put, List.setIfInBounds_toArray, List.set_cons_zero, List.set_cons_succ])
    refine wpAnyH_done (by kernel_rfl) ?_ _
    have c4 : w8.cell? ⟨bx, 4, none⟩ = some (.int .i64 (nn : Nat)) := blk_get HBK8.out rfl
    have cf4 := HBK8.out.frozen 4
    have jw : IntKind.i64.wrap ((nn : Int) + 1) = (nn : Int) + 1 := IntWalk.i64_in _ (by omega)
    have hlx' : bx < w.heap.size := hlt.1
    clear hHeld8 hrun8
    try clear hHeld
    go_wp2_with fail
    obtain ⟨w9, hw9⟩ : ∃ W, W = w8.setCell ⟨bx, 4, none⟩ (.int .i64 ((nn : Int) + 1)) := ⟨_, rfl⟩
    have hk9 : Blk w9 bx 73 #[.slice sA sn sc, .slice sE sm sd, .int .i64 g, .map (some mb), .int .i64 ((nn + 1 : Nat) : Int)] := by
      have hk := HBK8.out.set_ 4 (.int .i64 ((nn : Int) + 1))
      simp at hk
      rw [hw9]
      have e : ((nn + 1 : Nat) : Int) = (nn : Int) + 1 := by omega
      rw [e]; exact hk
    have hx79 : Kx bx mb w7.drew w9 := by rw [hw9]; exact (Kx.map HGR8.out).trans Kx.cell
    have hx9 : Kx bx mb w w9 := (Kx.of HBW7.out).trans hx79
    have hgs : w8.grownBy w9 (some bx) := by rw [hw9]; exact ⟨rfl, rfl, rfl, by simp [World.setCell], fun i hi hne => Below.heap_setCell w8 _ _ i (fun e => hne (by rw [e]))⟩
    have ho9 : w9.ownsMap (H := Value) Tryz.prog 9 RM mb (nn + 1) (DM.put (.string (keyB r)) (.held (vz (⟨jD, jn, jc, jG, jgn, jgc⟩, ⟨jt, jL, ju, jX⟩)))) := by
      have h8 := HOWN8.out
      rw [HVZ.out] at h8
      exact h8.kept hgs (fun e => hne (Option.some.inj e).symm)
    obtain ⟨es0, cl0, hm0⟩ := HI.out.map
    obtain ⟨es7, cl7, hm7⟩ := HMM7.out
    have HIX := Lib.hid (show Ix w9 B bx mb g L M (insK V r).1 (nn + 1) from
      ⟨HI.out.sch, HI.out.gran, ⟨sA, sn, sc, sE, sm, sd, hk9, hx9.own HOA.out (HOA.out.not_blk HBLK.out (by decide)) (own_not_map HOA.out hm0), hx9.own HOE.out (HOE.out.not_blk HBLK.out (by decide)) (own_not_map HOE.out hm0)⟩,
       ⟨_, _, ho9, HMP.out, HIV2.out, fun z hz => by
          rcases HMEM.out z hz with h1 | h1
          · exact owned_kx hx79 ((HOld7.out z h1).keep (below_drewN (Below.refl _ _) 1)) HBK7.out hm7
          · rw [h1]; exact owned_kx hx79 ((HOZ7.out.keep (below_drewN (Below.refl _ _) 1)).less (by omega)) HBK7.out hm7⟩,
       okx_mem HIV.out HIV2.out HI.out.ok (fun z hz => (HMEM.out z hz).imp id (fun e => by rw [e]; exact HOKZ.out)), hlx, hlm'⟩)
    have HKX := Lib.hid hx9
    rw [← hw9]
    clear hw9 hk9 hx79 hx9 hgs ho9
    go_wp2_with fail
    go_ret
    have har : addR V 0 (rowX t g D X) = (0, (insK V r).1) := by
      rw [← HRX.out]
      unfold addR
      rw [if_pos rfl, if_pos HIK.out]
    refine ⟨by rw [har]; rfl, ?_, HKX.out⟩
    rw [har]
    exact HIX.out
end Go.Proofs.YtmmeekmiildliaaGreatDoor
