/- A row's own copy. -/
import Derived.Test.YtmmeekmiildliaaGreatDoorRE
namespace Go.Proofs.YtmmeekmiildliaaGreatDoor
open Go.RowKit
set_option linter.unusedSimpArgs false
set_option linter.unusedVariables false
theorem Bx4.set1 {w : World} {g : Nat} {x0 x1 x2 x3 : Value} (h : Bx4 w g x0 x1 x2 x3) (y : Value) : Bx4 (w.setCell ⟨g, 1, none⟩ y) g x0 y x2 x3 := by
  have e : ∀ o, o ≠ 1 → (w.setCell ⟨g, 1, none⟩ y).cell? ⟨g, o, none⟩ = w.cell? ⟨g, o, none⟩ := fun o ho => World.cell?_setCell_other w _ _ _ (fun e => ho (by simpa using (congrArg Addr.off e).symm))
  exact ⟨(e 0 (by decide)).trans h.c0, World.cell?_setCell_same' w _ _ (by rw [h.c1]; rfl), (e 2 (by decide)).trans h.c2, (e 3 (by decide)).trans h.c3, fun o => by rw [World.frozen?_setCell]; exact h.fr o⟩
theorem Bx4.far {w : World} {g q : Nat} {x0 x1 x2 x3 : Value} (h : Bx4 w g x0 x1 x2 x3) (hq : g ≠ q) (o : Nat) (y : Value) : Bx4 (w.setCell ⟨q, o, none⟩ y) g x0 x1 x2 x3 := by
  have e : ∀ i, (w.setCell ⟨q, o, none⟩ y).cell? ⟨g, i, none⟩ = w.cell? ⟨g, i, none⟩ := fun i => World.cell?_setCell_other w _ _ _ (fun e => hq (by simpa using (congrArg Addr.block e).symm))
  exact ⟨(e 0).trans h.c0, (e 1).trans h.c1, (e 2).trans h.c2, (e 3).trans h.c3, fun i => by rw [World.frozen?_setCell]; exact h.fr i⟩
set_option maxRecDepth 100000 in
set_option maxHeartbeats 16000000 in
theorem own_raw (t k : Int) (D G : Option Addr) (n c gn gc : Nat) (L : List ByteArray) (X : List Ag) (w : World) (hA : Row w D (texts L)) (hG : Row w G (cellsG X)) (hn : n = L.length) (hgn : gn = X.length) (hc : n ≤ c) (hgc : gn ≤ gc) (ha : D = none → c = 0) (hag : G = none → gc = 0) (hs : n * 16 ≤ 140737488355328) (hsg : gn * 24 ≤ 140737488355328) :
    Calls Tryz.prog 72 #[.agg #[.int .i64 t, .slice D n c, .int .i64 k, .slice G gn gc]] w fun e w' => ∃ y : RZ, e = .returned (.agg (encR y).toArray) ∧ y.2 = ⟨t, L, k, X⟩ ∧ Owned w.heap.size w' y ∧ Below w.heap.size w w' := by
  obtain ⟨W1, hW1⟩ : ∃ W1, W1 = (w.alloc (.cells #[.int .i64 t, .slice D n c, .int .i64 k, .slice G gn gc] 59)).alloc (.cells #[.int .i64 0, .slice none 0 0, .int .i64 0, .slice none 0 0] 59) := ⟨_, rfl⟩
  have hb1 : Below w.heap.size w W1 := by rw [hW1]; exact bpush (bpush (Below.refl _ _) _) _
  have HB1 := Lib.hid hb1
  have HA := Lib.hid (hA.keep (Nat.le_refl _) hb1)
  have HG := Lib.hid (hG.keep (Nat.le_refl _) hb1)
  have HSZ := Lib.hid (show w.heap.size + 2 ≤ W1.heap.size by rw [hW1]; simp)
  have HZ := Lib.hid (show Bx4 W1 w.heap.size (.int .i64 t) (.slice D n c) (.int .i64 k) (.slice G gn gc) by rw [hW1]; exact Bx4.made.keep (bpush (Below.refl _ _) _))
  have HRB := Lib.hid (show Bx4 W1 (w.heap.size + 1) (.int .i64 0) (.slice none 0 0) (.int .i64 0) (.slice none 0 0) by
    rw [hW1]
    have := Bx4.made (w := w.alloc (.cells #[.int .i64 t, .slice D n c, .int .i64 k, .slice G gn gc] 59)) (x0 := .int .i64 0) (x1 := .slice none 0 0) (x2 := .int .i64 0) (x3 := .slice none 0 0) (t := 59)
    simpa using this)
  have HW1 := Lib.hid hW1
  have HN := Lib.hid hn
  have HGN := Lib.hid hgn
  have HC := Lib.hid hc
  have HGC := Lib.hid hgc
  have HAN := Lib.hid ha
  have HAG := Lib.hid hag
  have HS := Lib.hid hs
  have HSG := Lib.hid hsg
  clear hA hG hn hgn hc hgc ha hag hs hsg hW1 hb1
  go_enter Tryz.func72, Tryz.ntmps72
  go_wp2_with fail
  rw [← HW1.out]
  clear HW1
  go_upto_region 1 with fail
  go_cut [] (fun wx => ∃ (DD : Option Addr) (dk : Nat) (GG : Option Addr) (gk : Nat), Bx4 wx w.heap.size (.int .i64 t) (.slice DD n dk) (.int .i64 k) (.slice GG gn gk) ∧ Bx4 wx (w.heap.size + 1) (.int .i64 0) (.slice none 0 0) (.int .i64 0) (.slice none 0 0) ∧
      wx.ownsRow (w.heap.size + 2) 9 1 (.slice DD n dk) n (texts L) ∧ wx.ownsRow (w.heap.size + 2) 64 3 (.slice GG gn gk) gn (cellsG X) ∧ Below w.heap.size w wx)
  case first =>
    refine wp_region_held_drew (S := fun w' => Below w.heap.size w w') (by kernel_rfl) (below_drewN HB1.out 1) ?_
    intro hHeld
    obtain ⟨wd, hwd⟩ : ∃ wd, wd = W1.drew := ⟨_, rfl⟩
    have hbd : Below W1.heap.size W1 wd := by rw [hwd]; exact below_drewN (Below.refl _ _) 1
    have HZ := Lib.hid (HZ.out.keep hbd)
    have HRB := Lib.hid (HRB.out.keep hbd)
    have HA := Lib.hid (HA.out.keep (Nat.le_refl _) hbd)
    have HG := Lib.hid (HG.out.keep (Nat.le_refl _) hbd)
    have HSZ := Lib.hid (show w.heap.size + 2 ≤ wd.heap.size from Nat.le_trans HSZ.out hbd.size)
    rw [← hwd] at hHeld ⊢
    clear hwd hbd
    refine take_want (i := 0) (v := ?v0q1) rfl (by kernel_rfl) (by kernel_rfl) (by kernel_rfl) (fun _ _ _ h => h) (by rfl) ?y0q1 (by assumption) ?r0q1
    case y0q1 => (intro w hSw; go_simp; all_goals with_reducible rfl)
    (try simp only [Act.put, List.setIfInBounds_toArray, List.set_cons_zero, List.set_cons_succ])
    refine take_want (i := 3) (v := ?v3q2) rfl (by kernel_rfl) (by kernel_rfl) (by kernel_rfl) (fun _ _ _ h => h) (by rfl) ?y3q2 (by assumption) ?r3q2
    case y3q2 => (intro w hSw; go_simp; all_goals with_reducible rfl)
    (try simp only [Act.put, List.setIfInBounds_toArray, List.set_cons_zero, List.set_cons_succ])
    refine wpAnyH_ready (rs := [1, 4]) (by kernel_rfl) (by simp) ?_
    refine AllReadyH.cons rfl (fun K hK => ?_) (AllReadyH.cons rfl (fun K hK => ?_) AllReadyH.nil)
    · obtain ⟨b0, b1, b2, b3, bf⟩ := HZ.out
      go_simp
      clear b0 b1 b2 b3 bf
      refine hK.out _ _ (hHeld) (fun hHeld => ?_)
      clear hK K
      (try simp only [Act.put, List.setIfInBounds_toArray, List.set_cons_zero, List.set_cons_succ])
      refine wpAnyH_ready (rs := [2, 4]) (by kernel_rfl) (by simp) ?_
      refine AllReadyH.cons rfl (fun K hK => ?_) (AllReadyH.cons rfl (fun K hK => ?_) AllReadyH.nil)
      · go_simp
        (go_at_call 36; refine (cloneT_any D n c (texts L) _ HA.out (by rw [HN.out]; simp [texts]) (one_texts _) HC.out HAN.out HS.out).mono ?_; rintro e v2 ⟨DD, dk, rfl, ho, hb⟩)
        refine hK.out _ _ (bthen hHeld hb) (fun hHeld => ?_)
        clear hK K
        (try simp only [Act.put, List.setIfInBounds_toArray, List.set_cons_zero, List.set_cons_succ])
        have HZ := Lib.hid (HZ.out.keep hb)
        have HA := Lib.hid (HA.out.keep (Nat.le_refl _) hb)
        have HG := Lib.hid (HG.out.keep (Nat.le_refl _) hb)
        have HRB := Lib.hid (HRB.out.keep hb)
        have HOD := Lib.hid (show World.ownsRow v2 (w.heap.size + 2) 9 1 (.slice DD n dk) n (texts L) from own_less ho HSZ.out)
        have HSZ := Lib.hid (show w.heap.size + 2 ≤ v2.heap.size from Nat.le_trans HSZ.out hb.size)
        clear ho hb
        refine wpAnyH_ready (rs := [4]) (by kernel_rfl) (by simp) ?_
        refine AllReadyH.cons rfl (fun K hK => ?_) AllReadyH.nil
        obtain ⟨b0, b1, b2, b3, bf⟩ := HZ.out
        go_simp
        clear b0 b1 b2 b3 bf
        refine hK.out _ _ (hHeld) (fun hHeld => ?_)
        clear hK K
        (try simp only [Act.put, List.setIfInBounds_toArray, List.set_cons_zero, List.set_cons_succ])
        refine take_want (i := 6) (v := ?v6q3) rfl (by kernel_rfl) (by kernel_rfl) (by kernel_rfl) (fun _ _ _ h => h) (by rfl) ?y6q3 (by assumption) ?r6q3
        case y6q3 => (intro w hSw; go_simp; all_goals with_reducible rfl)
        (try simp only [Act.put, List.setIfInBounds_toArray, List.set_cons_zero, List.set_cons_succ])
        refine wpAnyH_ready (rs := [5]) (by kernel_rfl) (by simp) ?_
        refine AllReadyH.cons rfl (fun K hK => ?_) AllReadyH.nil
        go_simp
        (go_at_call 73; refine (cloneG_any G gn gc (cellsG X) _ HG.out (by rw [HGN.out, cellsG_length]) (one_cellsG _) HGC.out HAG.out HSG.out).mono ?_; rintro e v3 ⟨GG, gk, rfl, ho, hb⟩)
        refine hK.out _ _ (bthen hHeld hb) (fun hHeld => ?_)
        clear hK K
        (try simp only [Act.put, List.setIfInBounds_toArray, List.set_cons_zero, List.set_cons_succ])
        have HZ := Lib.hid (HZ.out.keep hb)
        have HA := Lib.hid (HA.out.keep (Nat.le_refl _) hb)
        have HG := Lib.hid (HG.out.keep (Nat.le_refl _) hb)
        have HRB := Lib.hid (HRB.out.keep hb)
        have HOG := Lib.hid (show World.ownsRow v3 (w.heap.size + 2) 64 3 (.slice GG gn gk) gn (cellsG X) from own_less ho HSZ.out)
        have HOD := Lib.hid (own_below HOD.out hb)
        have HSZ := Lib.hid (show w.heap.size + 2 ≤ v3.heap.size from Nat.le_trans HSZ.out hb.size)
        clear ho hb
        obtain ⟨b0, b1, b2, b3, bf⟩ := HZ.out
        refine wpAnyH_ready (rs := [7]) (by kernel_rfl) (by simp) ?_
        refine AllReadyH.cons rfl (fun K hK => ?_) AllReadyH.nil
        go_simp
        refine hK.out _ _ (bset hHeld (Nat.le_refl _) _) (fun hHeld => ?_)
        clear hK K
        (try simp only [Act.put, List.setIfInBounds_toArray, List.set_cons_zero, List.set_cons_succ])
        clear b0 b1 b2 b3 bf
        obtain ⟨wS, hwS⟩ : ∃ wS, wS = v3.setCell ⟨w.heap.size, 1, none⟩ (.slice DD n dk) := ⟨_, rfl⟩
        have HZ := Lib.hid (show Bx4 wS w.heap.size (.int .i64 t) (.slice DD n dk) (.int .i64 k) (.slice G gn gc) by rw [hwS]; exact HZ.out.set1 _)
        have HRB := Lib.hid (show Bx4 wS (w.heap.size + 1) (.int .i64 0) (.slice none 0 0) (.int .i64 0) (.slice none 0 0) by rw [hwS]; exact HRB.out.far (by omega) _ _)
        have HOD := Lib.hid (show wS.ownsRow (w.heap.size + 2) 9 1 (.slice DD n dk) n (texts L) by rw [hwS]; exact own_set' HOD.out (own_apart HOD.out (by omega)))
        have HOG := Lib.hid (show wS.ownsRow (w.heap.size + 2) 64 3 (.slice GG gn gk) gn (cellsG X) by rw [hwS]; exact own_set' HOG.out (own_apart HOG.out (by omega)))
        rw [← hwS] at hHeld ⊢
        clear hwS
        refine take_want (i := 8) (v := ?v8q4) rfl (by kernel_rfl) (by kernel_rfl) (by kernel_rfl) (fun _ _ _ h => h) (by rfl) ?y8q4 (by assumption) ?r8q4
        case y8q4 => (intro w hSw; go_simp; all_goals with_reducible rfl)
        (try simp only [Act.put, List.setIfInBounds_toArray, List.set_cons_zero, List.set_cons_succ])
        obtain ⟨b0, b1, b2, b3, bf⟩ := HZ.out
        refine wpAnyH_ready (rs := [9]) (by kernel_rfl) (by simp) ?_
        refine AllReadyH.cons rfl (fun K hK => ?_) AllReadyH.nil
        go_simp
        refine hK.out _ _ (bset hHeld (Nat.le_refl _) _) (fun hHeld => ?_)
        clear hK K
        (try simp only [Act.put, List.setIfInBounds_toArray, List.set_cons_zero, List.set_cons_succ])
        clear b0 b1 b2 b3 bf
        obtain ⟨wT, hwT⟩ : ∃ wT, wT = wS.setCell ⟨w.heap.size, 3, none⟩ (.slice GG gn gk) := ⟨_, rfl⟩
        have HZ := Lib.hid (show Bx4 wT w.heap.size (.int .i64 t) (.slice DD n dk) (.int .i64 k) (.slice GG gn gk) by rw [hwT]; exact HZ.out.set3 _)
        have HRB := Lib.hid (show Bx4 wT (w.heap.size + 1) (.int .i64 0) (.slice none 0 0) (.int .i64 0) (.slice none 0 0) by rw [hwT]; exact HRB.out.far (by omega) _ _)
        have HOD := Lib.hid (show wT.ownsRow (w.heap.size + 2) 9 1 (.slice DD n dk) n (texts L) by rw [hwT]; exact own_set' HOD.out (own_apart HOD.out (by omega)))
        have HOG := Lib.hid (show wT.ownsRow (w.heap.size + 2) 64 3 (.slice GG gn gk) gn (cellsG X) by rw [hwT]; exact own_set' HOG.out (own_apart HOG.out (by omega)))
        rw [← hwT] at hHeld ⊢
        clear hwT
        refine wpAnyH_done (by kernel_rfl) ?_ _
        go_wp2_with fail
        go_meet
        exact ⟨DD, dk, GG, gk, HZ.out, HRB.out, HOD.out, HOG.out, hHeld⟩
      · obtain ⟨b0, b1, b2, b3, bf⟩ := HZ.out
        go_simp
        clear b0 b1 b2 b3 bf
        refine hK.out _ _ (hHeld) (fun hHeld => ?_)
        clear hK K
        (try simp only [Act.put, List.setIfInBounds_toArray, List.set_cons_zero, List.set_cons_succ])
        refine wpAnyH_ready (rs := [2]) (by kernel_rfl) (by simp) ?_
        refine AllReadyH.cons rfl (fun K hK => ?_) AllReadyH.nil
        go_simp
        (go_at_call 36; refine (cloneT_any D n c (texts L) _ HA.out (by rw [HN.out]; simp [texts]) (one_texts _) HC.out HAN.out HS.out).mono ?_; rintro e v4 ⟨DD, dk, rfl, ho, hb⟩)
        refine hK.out _ _ (bthen hHeld hb) (fun hHeld => ?_)
        clear hK K
        (try simp only [Act.put, List.setIfInBounds_toArray, List.set_cons_zero, List.set_cons_succ])
        have HZ := Lib.hid (HZ.out.keep hb)
        have HA := Lib.hid (HA.out.keep (Nat.le_refl _) hb)
        have HG := Lib.hid (HG.out.keep (Nat.le_refl _) hb)
        have HRB := Lib.hid (HRB.out.keep hb)
        have HOD := Lib.hid (show World.ownsRow v4 (w.heap.size + 2) 9 1 (.slice DD n dk) n (texts L) from own_less ho HSZ.out)
        have HSZ := Lib.hid (show w.heap.size + 2 ≤ v4.heap.size from Nat.le_trans HSZ.out hb.size)
        clear ho hb
        refine take_want (i := 6) (v := ?v6q5) rfl (by kernel_rfl) (by kernel_rfl) (by kernel_rfl) (fun _ _ _ h => h) (by rfl) ?y6q5 (by assumption) ?r6q5
        case y6q5 => (intro w hSw; go_simp; all_goals with_reducible rfl)
        (try simp only [Act.put, List.setIfInBounds_toArray, List.set_cons_zero, List.set_cons_succ])
        refine wpAnyH_ready (rs := [5]) (by kernel_rfl) (by simp) ?_
        refine AllReadyH.cons rfl (fun K hK => ?_) AllReadyH.nil
        go_simp
        (go_at_call 73; refine (cloneG_any G gn gc (cellsG X) _ HG.out (by rw [HGN.out, cellsG_length]) (one_cellsG _) HGC.out HAG.out HSG.out).mono ?_; rintro e v5 ⟨GG, gk, rfl, ho, hb⟩)
        refine hK.out _ _ (bthen hHeld hb) (fun hHeld => ?_)
        clear hK K
        (try simp only [Act.put, List.setIfInBounds_toArray, List.set_cons_zero, List.set_cons_succ])
        have HZ := Lib.hid (HZ.out.keep hb)
        have HA := Lib.hid (HA.out.keep (Nat.le_refl _) hb)
        have HG := Lib.hid (HG.out.keep (Nat.le_refl _) hb)
        have HRB := Lib.hid (HRB.out.keep hb)
        have HOG := Lib.hid (show World.ownsRow v5 (w.heap.size + 2) 64 3 (.slice GG gn gk) gn (cellsG X) from own_less ho HSZ.out)
        have HOD := Lib.hid (own_below HOD.out hb)
        have HSZ := Lib.hid (show w.heap.size + 2 ≤ v5.heap.size from Nat.le_trans HSZ.out hb.size)
        clear ho hb
        obtain ⟨b0, b1, b2, b3, bf⟩ := HZ.out
        refine wpAnyH_ready (rs := [7]) (by kernel_rfl) (by simp) ?_
        refine AllReadyH.cons rfl (fun K hK => ?_) AllReadyH.nil
        go_simp
        refine hK.out _ _ (bset hHeld (Nat.le_refl _) _) (fun hHeld => ?_)
        clear hK K
        (try simp only [Act.put, List.setIfInBounds_toArray, List.set_cons_zero, List.set_cons_succ])
        clear b0 b1 b2 b3 bf
        obtain ⟨wS, hwS⟩ : ∃ wS, wS = v5.setCell ⟨w.heap.size, 1, none⟩ (.slice DD n dk) := ⟨_, rfl⟩
        have HZ := Lib.hid (show Bx4 wS w.heap.size (.int .i64 t) (.slice DD n dk) (.int .i64 k) (.slice G gn gc) by rw [hwS]; exact HZ.out.set1 _)
        have HRB := Lib.hid (show Bx4 wS (w.heap.size + 1) (.int .i64 0) (.slice none 0 0) (.int .i64 0) (.slice none 0 0) by rw [hwS]; exact HRB.out.far (by omega) _ _)
        have HOD := Lib.hid (show wS.ownsRow (w.heap.size + 2) 9 1 (.slice DD n dk) n (texts L) by rw [hwS]; exact own_set' HOD.out (own_apart HOD.out (by omega)))
        have HOG := Lib.hid (show wS.ownsRow (w.heap.size + 2) 64 3 (.slice GG gn gk) gn (cellsG X) by rw [hwS]; exact own_set' HOG.out (own_apart HOG.out (by omega)))
        rw [← hwS] at hHeld ⊢
        clear hwS
        refine take_want (i := 8) (v := ?v8q6) rfl (by kernel_rfl) (by kernel_rfl) (by kernel_rfl) (fun _ _ _ h => h) (by rfl) ?y8q6 (by assumption) ?r8q6
        case y8q6 => (intro w hSw; go_simp; all_goals with_reducible rfl)
        (try simp only [Act.put, List.setIfInBounds_toArray, List.set_cons_zero, List.set_cons_succ])
        obtain ⟨b0, b1, b2, b3, bf⟩ := HZ.out
        refine wpAnyH_ready (rs := [9]) (by kernel_rfl) (by simp) ?_
        refine AllReadyH.cons rfl (fun K hK => ?_) AllReadyH.nil
        go_simp
        refine hK.out _ _ (bset hHeld (Nat.le_refl _) _) (fun hHeld => ?_)
        clear hK K
        (try simp only [Act.put, List.setIfInBounds_toArray, List.set_cons_zero, List.set_cons_succ])
        clear b0 b1 b2 b3 bf
        obtain ⟨wT, hwT⟩ : ∃ wT, wT = wS.setCell ⟨w.heap.size, 3, none⟩ (.slice GG gn gk) := ⟨_, rfl⟩
        have HZ := Lib.hid (show Bx4 wT w.heap.size (.int .i64 t) (.slice DD n dk) (.int .i64 k) (.slice GG gn gk) by rw [hwT]; exact HZ.out.set3 _)
        have HRB := Lib.hid (show Bx4 wT (w.heap.size + 1) (.int .i64 0) (.slice none 0 0) (.int .i64 0) (.slice none 0 0) by rw [hwT]; exact HRB.out.far (by omega) _ _)
        have HOD := Lib.hid (show wT.ownsRow (w.heap.size + 2) 9 1 (.slice DD n dk) n (texts L) by rw [hwT]; exact own_set' HOD.out (own_apart HOD.out (by omega)))
        have HOG := Lib.hid (show wT.ownsRow (w.heap.size + 2) 64 3 (.slice GG gn gk) gn (cellsG X) by rw [hwT]; exact own_set' HOG.out (own_apart HOG.out (by omega)))
        rw [← hwT] at hHeld ⊢
        clear hwT
        refine wpAnyH_done (by kernel_rfl) ?_ _
        go_wp2_with fail
        go_meet
        exact ⟨DD, dk, GG, gk, HZ.out, HRB.out, HOD.out, HOG.out, hHeld⟩
    · obtain ⟨b0, b1, b2, b3, bf⟩ := HZ.out
      go_simp
      clear b0 b1 b2 b3 bf
      refine hK.out _ _ (hHeld) (fun hHeld => ?_)
      clear hK K
      (try simp only [Act.put, List.setIfInBounds_toArray, List.set_cons_zero, List.set_cons_succ])
      refine wpAnyH_ready (rs := [1]) (by kernel_rfl) (by simp) ?_
      refine AllReadyH.cons rfl (fun K hK => ?_) AllReadyH.nil
      obtain ⟨b0, b1, b2, b3, bf⟩ := HZ.out
      go_simp
      clear b0 b1 b2 b3 bf
      refine hK.out _ _ (hHeld) (fun hHeld => ?_)
      clear hK K
      (try simp only [Act.put, List.setIfInBounds_toArray, List.set_cons_zero, List.set_cons_succ])
      refine wpAnyH_ready (rs := [2]) (by kernel_rfl) (by simp) ?_
      refine AllReadyH.cons rfl (fun K hK => ?_) AllReadyH.nil
      go_simp
      (go_at_call 36; refine (cloneT_any D n c (texts L) _ HA.out (by rw [HN.out]; simp [texts]) (one_texts _) HC.out HAN.out HS.out).mono ?_; rintro e v6 ⟨DD, dk, rfl, ho, hb⟩)
      refine hK.out _ _ (bthen hHeld hb) (fun hHeld => ?_)
      clear hK K
      (try simp only [Act.put, List.setIfInBounds_toArray, List.set_cons_zero, List.set_cons_succ])
      have HZ := Lib.hid (HZ.out.keep hb)
      have HA := Lib.hid (HA.out.keep (Nat.le_refl _) hb)
      have HG := Lib.hid (HG.out.keep (Nat.le_refl _) hb)
      have HRB := Lib.hid (HRB.out.keep hb)
      have HOD := Lib.hid (show World.ownsRow v6 (w.heap.size + 2) 9 1 (.slice DD n dk) n (texts L) from own_less ho HSZ.out)
      have HSZ := Lib.hid (show w.heap.size + 2 ≤ v6.heap.size from Nat.le_trans HSZ.out hb.size)
      clear ho hb
      refine take_want (i := 6) (v := ?v6q7) rfl (by kernel_rfl) (by kernel_rfl) (by kernel_rfl) (fun _ _ _ h => h) (by rfl) ?y6q7 (by assumption) ?r6q7
      case y6q7 => (intro w hSw; go_simp; all_goals with_reducible rfl)
      (try simp only [Act.put, List.setIfInBounds_toArray, List.set_cons_zero, List.set_cons_succ])
      refine wpAnyH_ready (rs := [5]) (by kernel_rfl) (by simp) ?_
      refine AllReadyH.cons rfl (fun K hK => ?_) AllReadyH.nil
      go_simp
      (go_at_call 73; refine (cloneG_any G gn gc (cellsG X) _ HG.out (by rw [HGN.out, cellsG_length]) (one_cellsG _) HGC.out HAG.out HSG.out).mono ?_; rintro e v7 ⟨GG, gk, rfl, ho, hb⟩)
      refine hK.out _ _ (bthen hHeld hb) (fun hHeld => ?_)
      clear hK K
      (try simp only [Act.put, List.setIfInBounds_toArray, List.set_cons_zero, List.set_cons_succ])
      have HZ := Lib.hid (HZ.out.keep hb)
      have HA := Lib.hid (HA.out.keep (Nat.le_refl _) hb)
      have HG := Lib.hid (HG.out.keep (Nat.le_refl _) hb)
      have HRB := Lib.hid (HRB.out.keep hb)
      have HOG := Lib.hid (show World.ownsRow v7 (w.heap.size + 2) 64 3 (.slice GG gn gk) gn (cellsG X) from own_less ho HSZ.out)
      have HOD := Lib.hid (own_below HOD.out hb)
      have HSZ := Lib.hid (show w.heap.size + 2 ≤ v7.heap.size from Nat.le_trans HSZ.out hb.size)
      clear ho hb
      obtain ⟨b0, b1, b2, b3, bf⟩ := HZ.out
      refine wpAnyH_ready (rs := [7]) (by kernel_rfl) (by simp) ?_
      refine AllReadyH.cons rfl (fun K hK => ?_) AllReadyH.nil
      go_simp
      refine hK.out _ _ (bset hHeld (Nat.le_refl _) _) (fun hHeld => ?_)
      clear hK K
      (try simp only [Act.put, List.setIfInBounds_toArray, List.set_cons_zero, List.set_cons_succ])
      clear b0 b1 b2 b3 bf
      obtain ⟨wS, hwS⟩ : ∃ wS, wS = v7.setCell ⟨w.heap.size, 1, none⟩ (.slice DD n dk) := ⟨_, rfl⟩
      have HZ := Lib.hid (show Bx4 wS w.heap.size (.int .i64 t) (.slice DD n dk) (.int .i64 k) (.slice G gn gc) by rw [hwS]; exact HZ.out.set1 _)
      have HRB := Lib.hid (show Bx4 wS (w.heap.size + 1) (.int .i64 0) (.slice none 0 0) (.int .i64 0) (.slice none 0 0) by rw [hwS]; exact HRB.out.far (by omega) _ _)
      have HOD := Lib.hid (show wS.ownsRow (w.heap.size + 2) 9 1 (.slice DD n dk) n (texts L) by rw [hwS]; exact own_set' HOD.out (own_apart HOD.out (by omega)))
      have HOG := Lib.hid (show wS.ownsRow (w.heap.size + 2) 64 3 (.slice GG gn gk) gn (cellsG X) by rw [hwS]; exact own_set' HOG.out (own_apart HOG.out (by omega)))
      rw [← hwS] at hHeld ⊢
      clear hwS
      refine take_want (i := 8) (v := ?v8q8) rfl (by kernel_rfl) (by kernel_rfl) (by kernel_rfl) (fun _ _ _ h => h) (by rfl) ?y8q8 (by assumption) ?r8q8
      case y8q8 => (intro w hSw; go_simp; all_goals with_reducible rfl)
      (try simp only [Act.put, List.setIfInBounds_toArray, List.set_cons_zero, List.set_cons_succ])
      obtain ⟨b0, b1, b2, b3, bf⟩ := HZ.out
      refine wpAnyH_ready (rs := [9]) (by kernel_rfl) (by simp) ?_
      refine AllReadyH.cons rfl (fun K hK => ?_) AllReadyH.nil
      go_simp
      refine hK.out _ _ (bset hHeld (Nat.le_refl _) _) (fun hHeld => ?_)
      clear hK K
      (try simp only [Act.put, List.setIfInBounds_toArray, List.set_cons_zero, List.set_cons_succ])
      clear b0 b1 b2 b3 bf
      obtain ⟨wT, hwT⟩ : ∃ wT, wT = wS.setCell ⟨w.heap.size, 3, none⟩ (.slice GG gn gk) := ⟨_, rfl⟩
      have HZ := Lib.hid (show Bx4 wT w.heap.size (.int .i64 t) (.slice DD n dk) (.int .i64 k) (.slice GG gn gk) by rw [hwT]; exact HZ.out.set3 _)
      have HRB := Lib.hid (show Bx4 wT (w.heap.size + 1) (.int .i64 0) (.slice none 0 0) (.int .i64 0) (.slice none 0 0) by rw [hwT]; exact HRB.out.far (by omega) _ _)
      have HOD := Lib.hid (show wT.ownsRow (w.heap.size + 2) 9 1 (.slice DD n dk) n (texts L) by rw [hwT]; exact own_set' HOD.out (own_apart HOD.out (by omega)))
      have HOG := Lib.hid (show wT.ownsRow (w.heap.size + 2) 64 3 (.slice GG gn gk) gn (cellsG X) by rw [hwT]; exact own_set' HOG.out (own_apart HOG.out (by omega)))
      rw [← hwT] at hHeld ⊢
      clear hwT
      refine wpAnyH_done (by kernel_rfl) ?_ _
      go_wp2_with fail
      go_meet
      exact ⟨DD, dk, GG, gk, HZ.out, HRB.out, HOD.out, HOG.out, hHeld⟩
  case rest =>
    obtain ⟨DD, dk, GG, gk, hz, hrb, hod, hog, hbw⟩ := hcut
    have HZ := Lib.hid hz
    have HRB := Lib.hid hrb
    have HOD := Lib.hid hod
    have HOG := Lib.hid hog
    have HBW := Lib.hid hbw
    clear hz hrb hod hog hbw
    obtain ⟨e0, e1, e2, e3, ef⟩ := HZ.out
    obtain ⟨b0, b1, b2, b3, bf⟩ := HRB.out
    go_wp2_with fail
    obtain ⟨W2, hW2⟩ : ∃ W2, W2 = ((((wc.setCell ⟨w.heap.size + 1, 0, none⟩ (.int .i64 t)).setCell ⟨w.heap.size + 1, 1, none⟩ (.slice DD n dk)).setCell ⟨w.heap.size + 1, 2, none⟩ (.int .i64 k)).setCell ⟨w.heap.size + 1, 3, none⟩ (.slice GG gn gk)) := ⟨_, rfl⟩
    have HX2 := Lib.hid (HRB.out.all (.int .i64 t) (.slice DD n dk) (.int .i64 k) (.slice GG gn gk))
    have HB2 := Lib.hid (bset (bset (bset (bset HBW.out (b := w.heap.size + 1) (o := 0) (by omega) (.int .i64 t)) (b := w.heap.size + 1) (o := 1) (by omega) (.slice DD n dk)) (b := w.heap.size + 1) (o := 2) (by omega) (.int .i64 k)) (b := w.heap.size + 1) (o := 3) (by omega) (.slice GG gn gk))
    have ha1 : (Value.slice DD n dk).ownBlock ≠ some (w.heap.size + 1) := own_apart HOD.out (by omega)
    have ha2 : (Value.slice GG gn gk).ownBlock ≠ some (w.heap.size + 1) := own_apart HOG.out (by omega)
    have HOD := Lib.hid (own_less (own_set' (own_set' (own_set' (own_set' (o := 0) (u := .int .i64 t) HOD.out ha1) (o := 1) (u := .slice DD n dk) ha1) (o := 2) (u := .int .i64 k) ha1) (o := 3) (u := .slice GG gn gk) ha1) (C := w.heap.size) (by omega))
    have HOG := Lib.hid (own_less (own_set' (own_set' (own_set' (own_set' (o := 0) (u := .int .i64 t) HOG.out ha2) (o := 1) (u := .slice DD n dk) ha2) (o := 2) (u := .int .i64 k) ha2) (o := 3) (u := .slice GG gn gk) ha2) (C := w.heap.size) (by omega))
    rw [← hW2] at HX2 HB2 HOD HOG ⊢
    clear hW2 b0 b1 b2 b3 bf ha1 ha2
    obtain ⟨b0, b1, b2, b3, bf⟩ := HX2.out
    exact bodyPost_ret (v := .agg #[.int .i64 t, .slice DD n dk, .int .i64 k, .slice GG gn gk]) (by simp [results, Tryz.results72, go_sem, b0, b1, b2, b3]) rfl
      ⟨(⟨DD, n, dk, GG, gn, gk⟩, ⟨t, L, k, X⟩), rfl, rfl, ⟨HOD.out, HOG.out, HS.out, HSG.out⟩, HB2.out⟩
/-- A row's own copy. -/
theorem own_any (z : RZ) (w : World) (hz : Good w z) : Calls Tryz.prog 72 #[.agg (encR z).toArray] w fun e w' => ∃ y : RZ, e = .returned (.agg (encR y).toArray) ∧ y.2 = z.2 ∧ Owned w.heap.size w' y ∧ Below w.heap.size w w' :=
  own_raw z.2.t z.2.count z.1.D z.1.G z.1.n z.1.c z.1.gn z.1.gc z.2.dims z.2.aggs w hz.rd hz.rg hz.nd hz.ng hz.cd hz.cg hz.ad hz.ag hz.sd hz.sg
end Go.Proofs.YtmmeekmiildliaaGreatDoor
