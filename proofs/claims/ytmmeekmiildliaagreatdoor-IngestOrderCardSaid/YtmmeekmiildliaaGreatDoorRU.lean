/- Join (the document's). -/
import Derived.Test.YtmmeekmiildliaaGreatDoorMM
import Derived.Deep.DeepCutAuto
namespace Go.Proofs.YtmmeekmiildliaaGreatDoor
open Go.RowKit
set_option linter.unusedSimpArgs false
set_option linter.unusedVariables false
theorem own_is' {W : World} {B k : Nat} {v : Value} {xs : List Value} (h : W.ownsRow B 9 1 v k xs) : ∃ A c, v = .slice A k c := by
  rcases h.2 with ⟨rfl, h0⟩ | ⟨g, cap, cur, rfl, _⟩
  · exact ⟨none, 0, by rw [h0]⟩
  · exact ⟨_, _, rfl⟩
theorem joinA_right {a b : A3} (ha : rightB a.s a.mn a.mx = true) (hb : rightB b.s b.mn b.mx = true) : (joinA a b).2 = 0 ∨ (joinA a b).2 = 121 := by
  unfold joinA
  rw [if_pos ⟨ha, hb⟩]
  by_cases h2 : fit1 (a.s + b.s) = true
  · rw [if_pos h2]; exact .inl rfl
  · rw [if_neg h2]; exact .inr rfl
set_option maxRecDepth 100000 in
set_option maxHeartbeats 16000000 in
theorem refjoin_raw (t1 t2 k1 k2 : Int) (D1 D2 G1 G2 : Option Addr) (n1 c1 n2 c2 gn1 gc1 gn2 gc2 : Nat) (L1 L2 : List ByteArray) (X1 X2 : List Ag) (w : World) (hA : Row w D1 (texts L1)) (hB : Row w D2 (texts L2)) (hG : Row w G1 (cellsG X1)) (hH : Row w G2 (cellsG X2)) (hn1 : n1 = L1.length) (hn2 : n2 = L2.length) (hg1 : gn1 = X1.length) (hg2 : gn2 = X2.length)
    (hc1 : n1 ≤ c1) (ha1 : D1 = none → c1 = 0) (hs1 : n1 * 16 ≤ 140737488355328) (hs2 : n2 * 16 ≤ 140737488355328) (hs3 : gn1 * 24 ≤ 140737488355328) (hs4 : gn2 * 24 ≤ 140737488355328) (hk1 : 0 ≤ k1 ∧ k1 ≤ 1048576) (hk2 : 0 ≤ k2 ∧ k2 ≤ 1048576) (hge : gn1 = gn2) (hok1 : ∀ a ∈ X1, okA a) (hok2 : ∀ a ∈ X2, okA a) (r : RV × Int) (hr : r = joinR ⟨t1, L1, k1, X1⟩ ⟨t2, L2, k2, X2⟩) :
    Calls Tryz.prog 85 #[.agg #[.int .i64 t1, .slice D1 n1 c1, .int .i64 k1, .slice G1 gn1 gc1], .agg #[.int .i64 t2, .slice D2 n2 c2, .int .i64 k2, .slice G2 gn2 gc2]] w (JoinPost w r) := by
  subst hge
  obtain ⟨W1, hW1⟩ : ∃ W1, W1 = ((w.alloc (.cells #[.int .i64 t1, .slice D1 n1 c1, .int .i64 k1, .slice G1 gn1 gc1] 59)).alloc (.cells #[.int .i64 t2, .slice D2 n2 c2, .int .i64 k2, .slice G2 gn1 gc2] 59)).alloc (.cells #[.int .i64 0, .slice none 0 0, .int .i64 0, .slice none 0 0] 59) := ⟨_, rfl⟩
  have hb1 : Below w.heap.size w W1 := by rw [hW1]; exact bpush (bpush (bpush (Below.refl _ _) _) _) _
  have HB1 := Lib.hid hb1
  have HA := Lib.hid (hA.keep (Nat.le_refl _) hb1)
  have HB := Lib.hid (hB.keep (Nat.le_refl _) hb1)
  have HG := Lib.hid (hG.keep (Nat.le_refl _) hb1)
  have HH := Lib.hid (hH.keep (Nat.le_refl _) hb1)
  have HSZ := Lib.hid (show W1.heap.size = w.heap.size + 3 by rw [hW1]; simp)
  have x0 : W1.cell? ⟨w.heap.size, 0, none⟩ = some (.int .i64 t1) := by rw [hW1]; exact cell_on (bpush (bpush (Below.refl _ _) _) _) (cell_made rfl rfl)
  have x1 : W1.cell? ⟨w.heap.size, 1, none⟩ = some (.slice D1 n1 c1) := by rw [hW1]; exact cell_on (bpush (bpush (Below.refl _ _) _) _) (cell_made rfl rfl)
  have x2 : W1.cell? ⟨w.heap.size, 2, none⟩ = some (.int .i64 k1) := by rw [hW1]; exact cell_on (bpush (bpush (Below.refl _ _) _) _) (cell_made rfl rfl)
  have x3 : W1.cell? ⟨w.heap.size, 3, none⟩ = some (.slice G1 gn1 gc1) := by rw [hW1]; exact cell_on (bpush (bpush (Below.refl _ _) _) _) (cell_made rfl rfl)
  have y0 : W1.cell? ⟨w.heap.size + 1, 0, none⟩ = some (.int .i64 t2) := by rw [hW1]; exact cell_on (bpush (Below.refl _ _) _) (cell_made (by simp) rfl)
  have y1 : W1.cell? ⟨w.heap.size + 1, 1, none⟩ = some (.slice D2 n2 c2) := by rw [hW1]; exact cell_on (bpush (Below.refl _ _) _) (cell_made (by simp) rfl)
  have y2 : W1.cell? ⟨w.heap.size + 1, 2, none⟩ = some (.int .i64 k2) := by rw [hW1]; exact cell_on (bpush (Below.refl _ _) _) (cell_made (by simp) rfl)
  have y3 : W1.cell? ⟨w.heap.size + 1, 3, none⟩ = some (.slice G2 gn1 gc2) := by rw [hW1]; exact cell_on (bpush (Below.refl _ _) _) (cell_made (by simp) rfl)
  have HZ := Lib.hid (show Bx4 W1 (w.heap.size + 1 + 1) (.int .i64 0) (.slice none 0 0) (.int .i64 0) (.slice none 0 0) by
    rw [hW1]
    have := Bx4.made (w := (w.alloc (.cells #[.int .i64 t1, .slice D1 n1 c1, .int .i64 k1, .slice G1 gn1 gc1] 59)).alloc (.cells #[.int .i64 t2, .slice D2 n2 c2, .int .i64 k2, .slice G2 gn1 gc2] 59)) (x0 := .int .i64 0) (x1 := .slice none 0 0) (x2 := .int .i64 0) (x3 := .slice none 0 0) (t := 59)
    simpa using this)
  have HW1 := Lib.hid hW1
  have HN1 := Lib.hid hn1
  have HN2 := Lib.hid hn2
  have HG1 := Lib.hid hg1
  have HG2 := Lib.hid hg2
  have HC1 := Lib.hid hc1
  have HA1 := Lib.hid ha1
  have HS1 := Lib.hid hs1
  have HS3 := Lib.hid hs3
  have HS4 := Lib.hid hs4
  obtain ⟨v, hv⟩ : ∃ v, v = cmpK t1 t2 L1 L2 := ⟨_, rfl⟩
  have HV := Lib.hid hv
  have HR := Lib.hid (show r = if v = 0 ∧ X1.length = X2.length then
    (if 1048576 < k1 + k2 then (RV.zero, 121)
     else if (joinG X1 X2).2 = 0 then (⟨t1, L1, k1 + k2, (joinG X1 X2).1⟩, 0) else (RV.zero, (joinG X1 X2).2))
  else (RV.zero, 131) by rw [hr, hv]; rfl)
  obtain ⟨bo, hbo⟩ := bool_of (L1 = L2 ∧ t1 = t2)
  have HCC := Lib.hid (onekey_any t1 t2 k1 k2 D1 D2 G1 G2 n1 c1 n2 c2 gn1 gc1 gn1 gc2 L1 L2 W1 HA.out HB.out hn1 hn2 (by omega) (by omega) bo hbo)
  have HBO := Lib.hid (show bo = true ↔ v = 0 by rw [hbo, hv, cmpK_zero])
  have HOK1 := Lib.hid hok1
  have HOK2 := Lib.hid hok2
  clear hA hB hG hH hn1 hn2 hg1 hg2 hc1 ha1 hs1 hs2 hs3 hs4 hr hW1 hb1 hv hbo hok1 hok2
  go_enter Tryz.func85, Tryz.ntmps85
  go_wp2_with fail
  rw [← HW1.out]
  clear HW1
  go_at_call 84
  refine HCC.out.mono ?_
  clear HCC
  intro e w7 h
  obtain ⟨he, hb⟩ := h
  subst he
  have x0 := cell_on hb x0
  have x1 := cell_on hb x1
  have x2 := cell_on hb x2
  have x3 := cell_on hb x3
  have y0 := cell_on hb y0
  have y1 := cell_on hb y1
  have y2 := cell_on hb y2
  have y3 := cell_on hb y3
  have HZ := Lib.hid (HZ.out.keep hb)
  have HG := Lib.hid (HG.out.keep (Nat.le_refl _) hb)
  have HH := Lib.hid (HH.out.keep (Nat.le_refl _) hb)
  have HA := Lib.hid (HA.out.keep (Nat.le_refl _) hb)
  have HBB := Lib.hid (bthen HB1.out hb)
  have HSZ := Lib.hid (show w.heap.size + 3 ≤ w7.heap.size by have := hb.size; have := HSZ.out; omega)
  clear hb
  by_cases h1 : v = 0
  case neg =>
    obtain rfl : bo = false := by
      cases bo; rfl
      exact absurd (HBO.out.1 rfl) h1
    have HR2 := Lib.hid (show r = (RV.zero, 131) by rw [HR.out, if_neg (fun k => h1 k.1)])
    clear h1
    obtain ⟨b0, b1, b2, b3, bf⟩ := HZ.out
    go_wp2_with fail
    obtain ⟨W2, hW2⟩ : ∃ W2, W2 = ((((w7.setCell ⟨w.heap.size + 1 + 1, 0, none⟩ (.int .i64 0)).setCell ⟨w.heap.size + 1 + 1, 1, none⟩ (.slice none 0 0)).setCell ⟨w.heap.size + 1 + 1, 2, none⟩ (.int .i64 0)).setCell ⟨w.heap.size + 1 + 1, 3, none⟩ (.slice none 0 0)) := ⟨_, rfl⟩
    have HX2 := Lib.hid (HZ.out.all (.int .i64 0) (.slice none 0 0) (.int .i64 0) (.slice none 0 0))
    have HB2 := Lib.hid (bset (bset (bset (bset HBB.out (b := w.heap.size + 1 + 1) (o := 0) (by omega) (.int .i64 0)) (b := w.heap.size + 1 + 1) (o := 1) (by omega) (.slice none 0 0)) (b := w.heap.size + 1 + 1) (o := 2) (by omega) (.int .i64 0)) (b := w.heap.size + 1 + 1) (o := 3) (by omega) (.slice none 0 0))
    rw [← hW2] at HX2 HB2 ⊢
    clear hW2 b0 b1 b2 b3 bf
    obtain ⟨b0, b1, b2, b3, bf⟩ := HX2.out
    exact bodyPost_ret (v := (.tuple #[.agg #[.int .i64 0, .slice none 0 0, .int .i64 0, .slice none 0 0], .int .i64 131])) (by simp [results, Tryz.results85, go_sem, b0, b1, b2, b3]) rfl (JoinPost.none HR2.out HB2.out)
  case pos =>
  subst h1
  obtain rfl : bo = true := HBO.out.2 rfl
  have hkw : IntKind.i64.wrap (k1 + k2) = k1 + k2 := IntWalk.i64_in _ (by omega)
  by_cases h3 : 1048576 < k1 + k2
  case pos =>
    have z3 : 1048576 < k1 + k2 := h3
    have HR2 := Lib.hid (show r = (RV.zero, 121) by rw [HR.out, if_pos ⟨rfl, by rw [← HG1.out, ← HG2.out]⟩, if_pos h3])
    obtain ⟨b0, b1, b2, b3, bf⟩ := HZ.out
    go_wp2_with fail
    obtain ⟨W2, hW2⟩ : ∃ W2, W2 = ((((w7.setCell ⟨w.heap.size + 1 + 1, 0, none⟩ (.int .i64 0)).setCell ⟨w.heap.size + 1 + 1, 1, none⟩ (.slice none 0 0)).setCell ⟨w.heap.size + 1 + 1, 2, none⟩ (.int .i64 0)).setCell ⟨w.heap.size + 1 + 1, 3, none⟩ (.slice none 0 0)) := ⟨_, rfl⟩
    have HX2 := Lib.hid (HZ.out.all (.int .i64 0) (.slice none 0 0) (.int .i64 0) (.slice none 0 0))
    have HB2 := Lib.hid (bset (bset (bset (bset HBB.out (b := w.heap.size + 1 + 1) (o := 0) (by omega) (.int .i64 0)) (b := w.heap.size + 1 + 1) (o := 1) (by omega) (.slice none 0 0)) (b := w.heap.size + 1 + 1) (o := 2) (by omega) (.int .i64 0)) (b := w.heap.size + 1 + 1) (o := 3) (by omega) (.slice none 0 0))
    rw [← hW2] at HX2 HB2 ⊢
    clear hW2 b0 b1 b2 b3 bf
    obtain ⟨b0, b1, b2, b3, bf⟩ := HX2.out
    exact bodyPost_ret (v := (.tuple #[.agg #[.int .i64 0, .slice none 0 0, .int .i64 0, .slice none 0 0], .int .i64 121])) (by simp [results, Tryz.results85, go_sem, b0, b1, b2, b3]) rfl (JoinPost.none HR2.out HB2.out)
  case neg =>
  have z3 : ¬ (1048576 < k1 + k2) := h3
  have HR2 := Lib.hid (show r = if (joinG X1 X2).2 = 0 then (⟨t1, L1, k1 + k2, (joinG X1 X2).1⟩, 0) else (RV.zero, (joinG X1 X2).2) by rw [HR.out, if_pos ⟨rfl, by rw [← HG1.out, ← HG2.out]⟩, if_neg h3])
  go_upto_region 6 with fail
  go_cut [7] (fun s6 wx => ∃ (g : Nat) (D : Option Addr) (k : Nat), s6 = .pointer (some ⟨g, 0, none⟩) ∧ Bx4 wx g (.int .i64 t1) (.slice D n1 k) (.int .i64 (k1 + k2)) (.slice none 0 0) ∧ wx.ownsRow w7.heap.size 9 1 (.slice D n1 k) n1 (texts L1) ∧ (Value.slice D n1 k).ownBlock ≠ some g ∧ w7.heap.size ≤ g ∧ Below w7.heap.size w7 wx)
  case first =>
    refine wp_region_held_drew (S := fun w' => Below w7.heap.size w7 w') (by kernel_rfl) (below_drewN (Below.refl _ _) 1) ?_
    intro hHeld
    obtain ⟨wd, hwd⟩ : ∃ wd, wd = w7.drew := ⟨_, rfl⟩
    rw [← hwd] at hHeld ⊢
    clear hwd
    refine take_want (i := 0) (v := ?v0q1) rfl (by kernel_rfl) (by kernel_rfl) (by kernel_rfl) (fun _ _ _ h => h) (by rfl) ?y0q1 (by assumption) ?r0q1
    case y0q1 => (intro w hSw; go_simp; all_goals with_reducible rfl)
    (try simp only [Act.put, List.setIfInBounds_toArray, List.set_cons_zero, List.set_cons_succ])
    refine take_want (i := 1) (v := ?v1q2) rfl (by kernel_rfl) (by kernel_rfl) (by kernel_rfl) (fun _ _ _ h => h) (by rfl) ?y1q2 (by assumption) ?r1q2
    case y1q2 => (intro w hSw; have q0 := cell_on hSw x0; have q1 := cell_on hSw x1; have q2 := cell_on hSw x2; have q3 := cell_on hSw y2; go_simp; all_goals with_reducible rfl)
    (try simp only [Act.put, List.setIfInBounds_toArray, List.set_cons_zero, List.set_cons_succ])
    refine take_want (i := 3) (v := ?v3q3) rfl (by kernel_rfl) (by kernel_rfl) (by kernel_rfl) (fun _ _ _ h => h) (by rfl) ?y3q3 (by assumption) ?r3q3
    case y3q3 => (intro w hSw; go_simp; all_goals with_reducible rfl)
    (try simp only [Act.put, List.setIfInBounds_toArray, List.set_cons_zero, List.set_cons_succ])
    refine take_want (i := 4) (v := ?v4q4) rfl (by kernel_rfl) (by kernel_rfl) (by kernel_rfl) (fun _ _ _ h => h) (by rfl) ?y4q4 (by assumption) ?r4q4
    case y4q4 => (intro w hSw; have q0 := cell_on hSw x0; have q1 := cell_on hSw x1; have q2 := cell_on hSw x2; have q3 := cell_on hSw y2; go_simp; all_goals with_reducible rfl)
    (try simp only [Act.put, List.setIfInBounds_toArray, List.set_cons_zero, List.set_cons_succ])
    refine take_want (i := 6) (v := ?v6q5) rfl (by kernel_rfl) (by kernel_rfl) (by kernel_rfl) (fun _ _ _ h => h) (by rfl) ?y6q5 (by assumption) ?r6q5
    case y6q5 => (intro w hSw; go_simp; all_goals with_reducible rfl)
    (try simp only [Act.put, List.setIfInBounds_toArray, List.set_cons_zero, List.set_cons_succ])
    refine take_want (i := 7) (v := ?v7q6) rfl (by kernel_rfl) (by kernel_rfl) (by kernel_rfl) (fun _ _ _ h => h) (by rfl) ?y7q6 (by assumption) ?r7q6
    case y7q6 => (intro w hSw; have q0 := cell_on hSw x0; have q1 := cell_on hSw x1; have q2 := cell_on hSw x2; have q3 := cell_on hSw y2; go_simp; all_goals with_reducible rfl)
    (try simp only [Act.put, List.setIfInBounds_toArray, List.set_cons_zero, List.set_cons_succ])
    refine take_want (i := 8) (v := ?v8q7) rfl (by kernel_rfl) (by kernel_rfl) (by kernel_rfl) (fun _ _ _ h => h) (by rfl) ?y8q7 (by assumption) ?r8q7
    case y8q7 => (intro w hSw; go_simp; all_goals with_reducible rfl)
    (try simp only [Act.put, List.setIfInBounds_toArray, List.set_cons_zero, List.set_cons_succ])
    refine take_want (i := 9) (v := ?v9q8) rfl (by kernel_rfl) (by kernel_rfl) (by kernel_rfl) (fun _ _ _ h => h) (by rfl) ?y9q8 (by assumption) ?r9q8
    case y9q8 => (intro w hSw; have q0 := cell_on hSw x0; have q1 := cell_on hSw x1; have q2 := cell_on hSw x2; have q3 := cell_on hSw y2; go_simp; all_goals with_reducible rfl)
    (try simp only [Act.put, List.setIfInBounds_toArray, List.set_cons_zero, List.set_cons_succ])
    refine take_want (i := 10) (v := (.int .i64 (k1 + k2))) rfl (by kernel_rfl) (by kernel_rfl) (by kernel_rfl) (fun _ _ _ h => h) (by rfl) ?y10z (by assumption) ?r10z
    case y10z => (intro w hSw; go_simp; try rw [hkw])
    (try simp only [Act.put, List.setIfInBounds_toArray, List.set_cons_zero, List.set_cons_succ])
    refine wpAnyH_ready (rs := [2, 12]) (by kernel_rfl) (by simp) ?_
    refine AllReadyH.cons rfl (fun K hK => ?_) (AllReadyH.cons rfl (fun K hK => ?_) AllReadyH.nil)
    · go_simp
      obtain ⟨x1w, hV⟩ : ∃ V, V = wd.alloc (.cells #[] 9) := ⟨_, rfl⟩
      have HO := Lib.hid (show x1w.ownsRow w7.heap.size 9 1 (.slice (some ⟨wd.heap.size, 0, none⟩) 0 0) 0 [] by rw [hV]; exact own_empty hHeld.size)
      have hbV : Below wd.heap.size wd x1w := by rw [hV]; exact bpush (Below.refl _ _) _
      obtain ⟨v0, hv0⟩ : ∃ v0, v0 = Value.slice (some ⟨wd.heap.size, 0, none⟩) 0 0 := ⟨_, rfl⟩
      rw [← hv0] at HO ⊢
      rw [← hV]
      refine hK.out _ _ (bthen hHeld hbV) (fun hHeld => ?_)
      clear hK K
      (try simp only [Act.put, List.setIfInBounds_toArray, List.set_cons_zero, List.set_cons_succ])
      clear hV hbV hv0
      refine wpAnyH_ready (rs := [5, 12]) (by kernel_rfl) (by simp) ?_
      refine AllReadyH.cons rfl (fun K hK => ?_) (AllReadyH.cons rfl (fun K hK => ?_) AllReadyH.nil)
      · refine step_append_texts rfl _ _ rfl w7.heap.size v0 0 [] (by first | rfl | (simp; done)) D1 n1 c1 L1 (by first | rfl | (simp; done)) HO.out (HA.out.keep (Nat.le_refl _) hHeld) HN1.out HC1.out HA1.out (by have := HS1.out; omega) hHeld.size ?_
        intro v1 x2w ho hg hd
        rw [Nat.zero_add, List.nil_append] at ho
        obtain ⟨DD, k, rfl⟩ := own_is' ho
        have hbV := grown_below HO.out hg hHeld.size
        have HO := Lib.hid ho
        refine hK.out _ _ (hHeld.trans hbV) (fun hHeld => ?_)
        clear hK K
        (try simp only [Act.put, List.setIfInBounds_toArray, List.set_cons_zero, List.set_cons_succ])
        clear ho hg hd hbV
        refine take_want (i := 11) (v := ?v11q9) rfl (by kernel_rfl) (by kernel_rfl) (by kernel_rfl) (fun _ _ _ h => h) (by rfl) ?y11q9 (by assumption) ?r11q9
        case y11q9 => (intro w hSw; go_simp; all_goals with_reducible rfl)
        (try simp only [Act.put, List.setIfInBounds_toArray, List.set_cons_zero, List.set_cons_succ])
        refine wpAnyH_ready (rs := [12]) (by kernel_rfl) (by simp) ?_
        refine AllReadyH.cons rfl (fun K hK => ?_) AllReadyH.nil
        go_simp
        obtain ⟨x3w, hV⟩ : ∃ V, V = x2w.alloc (.cells #[.int .i64 0, .slice none 0 0, .int .i64 0, .slice none 0 0] 59) := ⟨_, rfl⟩
        have hbV : Below x2w.heap.size x2w x3w := by rw [hV]; exact bpush (Below.refl _ _) _
        obtain ⟨g, hgq⟩ : ∃ g, g = x2w.heap.size := ⟨_, rfl⟩
        have HBX := Lib.hid (show Bx4 x3w g (.int .i64 0) (.slice none 0 0) (.int .i64 0) (.slice none 0 0) by rw [hV, hgq]; exact Bx4.made)
        have HGE := Lib.hid (show w7.heap.size ≤ g by rw [hgq]; exact hHeld.size)
        have HGL := Lib.hid (show g < x3w.heap.size by rw [hV, hgq]; simp)
        have HAP := Lib.hid (show (Value.slice DD n1 k).ownBlock ≠ some g by rw [hgq]; exact own_fresh HO.out)
        have HO := Lib.hid (own_below HO.out hbV)
        rw [← hgq, ← hV]
        refine hK.out _ _ (bthen hHeld hbV) (fun hHeld => ?_)
        clear hK K
        (try simp only [Act.put, List.setIfInBounds_toArray, List.set_cons_zero, List.set_cons_succ])
        clear hV hbV hgq
        obtain ⟨e0, e1, e2, e3, ef⟩ := HBX.out
        refine wpAnyH_ready (rs := [13]) (by kernel_rfl) (by simp) ?_
        refine AllReadyH.cons rfl (fun K hK => ?_) AllReadyH.nil
        go_simp
        have hge0 := HGE.out
        have hap := HAP.out
        have hBs := bset (bset (bset (bset hHeld (o := 0) hge0 (.int .i64 t1)) (o := 1) hge0 (.slice DD n1 k)) (o := 2) hge0 (.int .i64 (k1 + k2))) (o := 3) hge0 (.slice none 0 0)
        refine hK.out _ _ (by first | exact hBs | (simp at hBs ⊢; exact hBs)) (fun hHeld2 => ?_)
        clear hK K
        (try simp only [Act.put, List.setIfInBounds_toArray, List.set_cons_zero, List.set_cons_succ])
        refine wpAnyH_done (by kernel_rfl) ?_ _
        go_wp2_with fail
        go_meet
        exact ⟨g, DD, k, rfl, HBX.out.all _ _ _ _, own_set' (own_set' (own_set' (own_set' HO.out hap) hap) hap) hap, hap, hge0, hHeld2⟩
      · go_simp
        obtain ⟨x4w, hV⟩ : ∃ V, V = x1w.alloc (.cells #[.int .i64 0, .slice none 0 0, .int .i64 0, .slice none 0 0] 59) := ⟨_, rfl⟩
        have hbV : Below x1w.heap.size x1w x4w := by rw [hV]; exact bpush (Below.refl _ _) _
        obtain ⟨g, hgq⟩ : ∃ g, g = x1w.heap.size := ⟨_, rfl⟩
        have HBX := Lib.hid (show Bx4 x4w g (.int .i64 0) (.slice none 0 0) (.int .i64 0) (.slice none 0 0) by rw [hV, hgq]; exact Bx4.made)
        have HGE := Lib.hid (show w7.heap.size ≤ g by rw [hgq]; exact hHeld.size)
        have HGL := Lib.hid (show g < x4w.heap.size by rw [hV, hgq]; simp)
        have HAP := Lib.hid (show v0.ownBlock ≠ some g by rw [hgq]; exact own_fresh HO.out)
        have HO := Lib.hid (own_below HO.out hbV)
        rw [← hgq, ← hV]
        refine hK.out _ _ (bthen hHeld hbV) (fun hHeld => ?_)
        clear hK K
        (try simp only [Act.put, List.setIfInBounds_toArray, List.set_cons_zero, List.set_cons_succ])
        clear hV hbV hgq
        refine wpAnyH_ready (rs := [5]) (by kernel_rfl) (by simp) ?_
        refine AllReadyH.cons rfl (fun K hK => ?_) AllReadyH.nil
        refine step_append_texts rfl _ _ rfl w7.heap.size v0 0 [] (by first | rfl | (simp; done)) D1 n1 c1 L1 (by first | rfl | (simp; done)) HO.out (HA.out.keep (Nat.le_refl _) hHeld) HN1.out HC1.out HA1.out (by have := HS1.out; omega) hHeld.size ?_
        intro v1 x5w ho hg hd
        rw [Nat.zero_add, List.nil_append] at ho
        obtain ⟨DD, k, rfl⟩ := own_is' ho
        have HBX := Lib.hid (HBX.out.grown hg HAP.out)
        have HAP := Lib.hid (show (Value.slice DD n1 k).ownBlock ≠ some g by rcases hd with e | e <;> rw [e]; exact HAP.out; intro e2; have := Option.some.inj e2; have := HGL.out; omega)
        have HGL := Lib.hid (show g < x5w.heap.size from Nat.lt_of_lt_of_le HGL.out hg.size)
        have hbV := grown_below HO.out hg hHeld.size
        have HO := Lib.hid ho
        refine hK.out _ _ (hHeld.trans hbV) (fun hHeld => ?_)
        clear hK K
        (try simp only [Act.put, List.setIfInBounds_toArray, List.set_cons_zero, List.set_cons_succ])
        clear ho hg hd hbV
        refine take_want (i := 11) (v := ?v11q10) rfl (by kernel_rfl) (by kernel_rfl) (by kernel_rfl) (fun _ _ _ h => h) (by rfl) ?y11q10 (by assumption) ?r11q10
        case y11q10 => (intro w hSw; go_simp; all_goals with_reducible rfl)
        (try simp only [Act.put, List.setIfInBounds_toArray, List.set_cons_zero, List.set_cons_succ])
        obtain ⟨e0, e1, e2, e3, ef⟩ := HBX.out
        refine wpAnyH_ready (rs := [13]) (by kernel_rfl) (by simp) ?_
        refine AllReadyH.cons rfl (fun K hK => ?_) AllReadyH.nil
        go_simp
        have hge0 := HGE.out
        have hap := HAP.out
        have hBs := bset (bset (bset (bset hHeld (o := 0) hge0 (.int .i64 t1)) (o := 1) hge0 (.slice DD n1 k)) (o := 2) hge0 (.int .i64 (k1 + k2))) (o := 3) hge0 (.slice none 0 0)
        refine hK.out _ _ (by first | exact hBs | (simp at hBs ⊢; exact hBs)) (fun hHeld2 => ?_)
        clear hK K
        (try simp only [Act.put, List.setIfInBounds_toArray, List.set_cons_zero, List.set_cons_succ])
        refine wpAnyH_done (by kernel_rfl) ?_ _
        go_wp2_with fail
        go_meet
        exact ⟨g, DD, k, rfl, HBX.out.all _ _ _ _, own_set' (own_set' (own_set' (own_set' HO.out hap) hap) hap) hap, hap, hge0, hHeld2⟩
    · go_simp
      obtain ⟨x6w, hV⟩ : ∃ V, V = wd.alloc (.cells #[.int .i64 0, .slice none 0 0, .int .i64 0, .slice none 0 0] 59) := ⟨_, rfl⟩
      have hbV : Below wd.heap.size wd x6w := by rw [hV]; exact bpush (Below.refl _ _) _
      obtain ⟨g, hgq⟩ : ∃ g, g = wd.heap.size := ⟨_, rfl⟩
      have HBX := Lib.hid (show Bx4 x6w g (.int .i64 0) (.slice none 0 0) (.int .i64 0) (.slice none 0 0) by rw [hV, hgq]; exact Bx4.made)
      have HGE := Lib.hid (show w7.heap.size ≤ g by rw [hgq]; exact hHeld.size)
      have HGL := Lib.hid (show g < x6w.heap.size by rw [hV, hgq]; simp)
      rw [← hgq, ← hV]
      refine hK.out _ _ (bthen hHeld hbV) (fun hHeld => ?_)
      clear hK K
      (try simp only [Act.put, List.setIfInBounds_toArray, List.set_cons_zero, List.set_cons_succ])
      clear hV hbV hgq
      refine wpAnyH_ready (rs := [2]) (by kernel_rfl) (by simp) ?_
      refine AllReadyH.cons rfl (fun K hK => ?_) AllReadyH.nil
      go_simp
      obtain ⟨x7w, hV⟩ : ∃ V, V = x6w.alloc (.cells #[] 9) := ⟨_, rfl⟩
      have HO := Lib.hid (show x7w.ownsRow w7.heap.size 9 1 (.slice (some ⟨x6w.heap.size, 0, none⟩) 0 0) 0 [] by rw [hV]; exact own_empty hHeld.size)
      have hbV : Below x6w.heap.size x6w x7w := by rw [hV]; exact bpush (Below.refl _ _) _
      obtain ⟨v0, hv0⟩ : ∃ v0, v0 = Value.slice (some ⟨x6w.heap.size, 0, none⟩) 0 0 := ⟨_, rfl⟩
      have HBX := Lib.hid (HBX.out.keep hbV)
      have HAP := Lib.hid (show v0.ownBlock ≠ some g by rw [hv0]; intro e; have := Option.some.inj e; have := HGL.out; simp only at *; omega)
      have HGL := Lib.hid (show g < x7w.heap.size from Nat.lt_of_lt_of_le HGL.out hbV.size)
      rw [← hv0] at HO ⊢
      rw [← hV]
      refine hK.out _ _ (bthen hHeld hbV) (fun hHeld => ?_)
      clear hK K
      (try simp only [Act.put, List.setIfInBounds_toArray, List.set_cons_zero, List.set_cons_succ])
      clear hV hbV hv0
      refine wpAnyH_ready (rs := [5]) (by kernel_rfl) (by simp) ?_
      refine AllReadyH.cons rfl (fun K hK => ?_) AllReadyH.nil
      refine step_append_texts rfl _ _ rfl w7.heap.size v0 0 [] (by first | rfl | (simp; done)) D1 n1 c1 L1 (by first | rfl | (simp; done)) HO.out (HA.out.keep (Nat.le_refl _) hHeld) HN1.out HC1.out HA1.out (by have := HS1.out; omega) hHeld.size ?_
      intro v1 x8w ho hg hd
      rw [Nat.zero_add, List.nil_append] at ho
      obtain ⟨DD, k, rfl⟩ := own_is' ho
      have HBX := Lib.hid (HBX.out.grown hg HAP.out)
      have HAP := Lib.hid (show (Value.slice DD n1 k).ownBlock ≠ some g by rcases hd with e | e <;> rw [e]; exact HAP.out; intro e2; have := Option.some.inj e2; have := HGL.out; omega)
      have HGL := Lib.hid (show g < x8w.heap.size from Nat.lt_of_lt_of_le HGL.out hg.size)
      have hbV := grown_below HO.out hg hHeld.size
      have HO := Lib.hid ho
      refine hK.out _ _ (hHeld.trans hbV) (fun hHeld => ?_)
      clear hK K
      (try simp only [Act.put, List.setIfInBounds_toArray, List.set_cons_zero, List.set_cons_succ])
      clear ho hg hd hbV
      refine take_want (i := 11) (v := ?v11q11) rfl (by kernel_rfl) (by kernel_rfl) (by kernel_rfl) (fun _ _ _ h => h) (by rfl) ?y11q11 (by assumption) ?r11q11
      case y11q11 => (intro w hSw; go_simp; all_goals with_reducible rfl)
      (try simp only [Act.put, List.setIfInBounds_toArray, List.set_cons_zero, List.set_cons_succ])
      obtain ⟨e0, e1, e2, e3, ef⟩ := HBX.out
      refine wpAnyH_ready (rs := [13]) (by kernel_rfl) (by simp) ?_
      refine AllReadyH.cons rfl (fun K hK => ?_) AllReadyH.nil
      go_simp
      have hge0 := HGE.out
      have hap := HAP.out
      have hBs := bset (bset (bset (bset hHeld (o := 0) hge0 (.int .i64 t1)) (o := 1) hge0 (.slice DD n1 k)) (o := 2) hge0 (.int .i64 (k1 + k2))) (o := 3) hge0 (.slice none 0 0)
      refine hK.out _ _ (by first | exact hBs | (simp at hBs ⊢; exact hBs)) (fun hHeld2 => ?_)
      clear hK K
      (try simp only [Act.put, List.setIfInBounds_toArray, List.set_cons_zero, List.set_cons_succ])
      refine wpAnyH_done (by kernel_rfl) ?_ _
      go_wp2_with fail
      go_meet
      exact ⟨g, DD, k, rfl, HBX.out.all _ _ _ _, own_set' (own_set' (own_set' (own_set' HO.out hap) hap) hap) hap, hap, hge0, hHeld2⟩
  case rest =>
    obtain ⟨g, D, k, rfl, hbx, ho, hap, hge, hbw⟩ := hcut
    have HBX := Lib.hid hbx
    have HO := Lib.hid ho
    have HAP := Lib.hid hap
    have HBW := Lib.hid hbw
    have hgl : g < wc.heap.size := hbx.lt
    have hwl : w7.heap.size ≤ wc.heap.size := hbw.size
    have hsz := HSZ.out
    have ro := cell_on hbw x3
    have r3 := cell_on hbw x3
    clear hbx ho hap hbw
    obtain ⟨wl, hwlq⟩ : ∃ wl, wl = wc := ⟨_, rfl⟩
    subst hwlq
    obtain ⟨e0, e1, e2, e3, ef⟩ := HBX.out
    obtain ⟨i0, hi0, hz0, hz1, hz2⟩ := info_parts info51
    go_wp2_with fail
    clear e0 e1 e2 e3 ef
    have hgb : gn1 ≤ 9223372036854775806 := by have := HS3.out; omega
    go_loopw [8, 9, 10] (fun i q8 q9 wr => ∃ (k0 : Nat) (P : List Ag) (v : Value), i = .int .i64 (k0 : Int) ∧ k0 ≤ gn1 ∧ Hid (P.length = k0) ∧ Hid (JoinSt X1 X2 P k0) ∧ Hid (wr.ownsRow wl.heap.size 64 3 v k0 (cellsG P)) ∧ Hid (Bx4 wr g (.int .i64 t1) (.slice D n1 k) (.int .i64 (k1 + k2)) v) ∧ Hid (Near g wl.heap.size wl wr)) (fun i _ _ _ => gn1 - (intOf i).toNat)
    case atStart => exact ⟨0, [], .slice none 0 0, rfl, by omega, Lib.hid rfl, Lib.hid (JoinSt.start _ _), Lib.hid (World.ownsRow_nil _ _ _ _), HBX, Lib.hid (Near.refl _ _ _)⟩
    case round =>
      obtain ⟨k0, P, v, rfl, hk, HP, HJ, HOV, HBXR, HNR⟩ := hrel
      have HBR := Lib.hid (HBW.out.trans (HNR.out.below hge hwl))
      have x3 := cell_on HBR.out x3
      have y3 := cell_on HBR.out y3
      have HZ := Lib.hid (HZ.out.keep HBR.out)
      have HWR := Lib.hid (bthen HBB.out HBR.out)
      have hwr : w7.heap.size ≤ wr.heap.size := HBR.out.size
      have hlr : wl.heap.size ≤ wr.heap.size := HNR.out.size
      by_cases hlt : k0 < gn1
      case neg =>
        have hki : ¬ ((k0 : Int) < (gn1 : Int)) := by omega
        have hkg : k0 = gn1 := by omega
        have HR3 := Lib.hid (show r = (⟨t1, L1, k1 + k2, P⟩, 0) by
          have hj := HJ.out
          rw [hkg, HG1.out] at hj
          have h := hj.fin (by rw [← HG1.out, ← HG2.out])
          rw [HR2.out, h, if_pos rfl])
        subst hkg
        obtain ⟨hPl, G3, c3, rfl, hrw3, hc3, hm3, hn3⟩ := own_slice3 HOV.out
        clear hlt hPl hrw3 hc3 hm3 hn3
        obtain ⟨e0, e1, e2, e3, ef⟩ := HBXR.out
        obtain ⟨b0, b1, b2, b3, bf⟩ := HZ.out
        go_wp2_with fail
        obtain ⟨W2, hW2⟩ : ∃ W2, W2 = ((((wr.setCell ⟨w.heap.size + 1 + 1, 0, none⟩ (.int .i64 t1)).setCell ⟨w.heap.size + 1 + 1, 1, none⟩ (.slice D n1 k)).setCell ⟨w.heap.size + 1 + 1, 2, none⟩ (.int .i64 (k1 + k2))).setCell ⟨w.heap.size + 1 + 1, 3, none⟩ (.slice G3 k0 c3)) := ⟨_, rfl⟩
        have HX2 := Lib.hid (HZ.out.all (.int .i64 t1) (.slice D n1 k) (.int .i64 (k1 + k2)) (.slice G3 k0 c3))
        have HB2 := Lib.hid (bset (bset (bset (bset HWR.out (b := w.heap.size + 1 + 1) (o := 0) (by omega) (.int .i64 t1)) (b := w.heap.size + 1 + 1) (o := 1) (by omega) (.slice D n1 k)) (b := w.heap.size + 1 + 1) (o := 2) (by omega) (.int .i64 (k1 + k2))) (b := w.heap.size + 1 + 1) (o := 3) (by omega) (.slice G3 k0 c3))
        have ha1 : (Value.slice D n1 k).ownBlock ≠ some (w.heap.size + 1 + 1) := own_apart HO.out (by omega)
        have ha2 : (Value.slice G3 k0 c3).ownBlock ≠ some (w.heap.size + 1 + 1) := own_apart HOV.out (by omega)
        have hod := HNR.out.own HO.out (Nat.le_refl _) HAP.out
        have HOD := Lib.hid (own_less (own_set' (own_set' (own_set' (own_set' (o := 0) (u := .int .i64 t1) hod ha1) (o := 1) (u := .slice D n1 k) ha1) (o := 2) (u := .int .i64 (k1 + k2)) ha1) (o := 3) (u := .slice G3 k0 c3) ha1) (C := w.heap.size) (by omega))
        have HOG := Lib.hid (own_less (own_set' (own_set' (own_set' (own_set' (o := 0) (u := .int .i64 t1) HOV.out ha2) (o := 1) (u := .slice D n1 k) ha2) (o := 2) (u := .int .i64 (k1 + k2)) ha2) (o := 3) (u := .slice G3 k0 c3) ha2) (C := w.heap.size) (by omega))
        rw [← hW2] at HX2 HB2 HOD HOG ⊢
        clear hW2 b0 b1 b2 b3 bf ha1 ha2 hod
        obtain ⟨b0, b1, b2, b3, bf⟩ := HX2.out
        exact bodyPost_ret (v := (.tuple #[.agg #[.int .i64 t1, .slice D n1 k, .int .i64 (k1 + k2), .slice G3 k0 c3], .int .i64 0])) (by simp [results, Tryz.results85, go_sem, b0, b1, b2, b3]) rfl
          ⟨(⟨D, n1, k, G3, k0, c3⟩, ⟨t1, L1, k1 + k2, P⟩), by rw [HR3.out]; rfl, by rw [HR3.out], ⟨HOD.out, HOG.out, HS1.out, by have := HS3.out; omega⟩, HB2.out⟩
      case pos =>
      have hki : (k0 : Int) < (gn1 : Int) := by omega
      have hk00 : (0 : Int) ≤ (k0 : Int) := by omega
      have hkX : k0 < X1.length := by have := HG1.out; omega
      have hkY : k0 < X2.length := by have := HG2.out; omega
      obtain ⟨bg1, o1, rfl, p0, p1, p2⟩ := (HG.out.keep (Nat.le_refl _) HBR.out).at3 hkX
      obtain ⟨bg2, o2, rfl, q0, q1, q2⟩ := (HH.out.keep (Nat.le_refl _) HBR.out).at3 hkY
      obtain ⟨⟨a0, a1, a2⟩, ha⟩ : ∃ t, t = X1[k0] := ⟨_, rfl⟩
      obtain ⟨⟨d0, d1, d2⟩, hd⟩ : ∃ t, t = X2[k0] := ⟨_, rfl⟩
      rw [← ha] at p0 p1 p2
      rw [← hd] at q0 q1 q2
      simp only at p0 p1 p2 q0 q1 q2
      obtain ⟨⟨⟨j0, j1, j2⟩, je⟩, hj⟩ : ∃ z, z = joinA ⟨a0, a1, a2⟩ ⟨d0, d1, d2⟩ := ⟨_, rfl⟩
      have HAJ := Lib.hid (show ∀ W, Calls Tryz.prog 112 #[.agg #[.int .i64 a0, .int .i64 a1, .int .i64 a2], .agg #[.int .i64 d0, .int .i64 d1, .int .i64 d2]] W (fun e w' => e = .returned (.tuple #[.agg #[.int .i64 j0, .int .i64 j1, .int .i64 j2], .int .i64 je]) ∧ Below W.heap.size W w') from fun W => by
        have h := rjoin_any ⟨a0, a1, a2⟩ ⟨d0, d1, d2⟩ W
        unfold Ans at h
        rw [← hj] at h
        exact h)
      have HJA := Lib.hid (show joinA (toA3 X1[k0]) (toA3 X2[k0]) = (⟨j0, j1, j2⟩, je) by rw [← ha, ← hd, hj]; rfl)
      have HLT := Lib.hid hlt
      have HJE := Lib.hid (show je = 0 ∨ je = 121 by
        have h1 : okA (a0, a1, a2) := by rw [ha]; exact HOK1.out _ (List.getElem_mem hkX)
        have h2 : okA (d0, d1, d2) := by rw [hd]; exact HOK2.out _ (List.getElem_mem hkY)
        have h3 := joinA_right (a := ⟨a0, a1, a2⟩) (b := ⟨d0, d1, d2⟩) h1 h2
        rw [← hj] at h3; exact h3)
      clear ha hd hj hlt
      go_upto_region 10 with fail
      go_cut [9, 10] (fun s8 s9 wx => ∃ (h : Nat), s8 = .pointer (some ⟨h, 0, none⟩) ∧ s9 = .int .i64 je ∧ wx.cell? ⟨h, 0, none⟩ = some (.int .i64 j0) ∧ wx.cell? ⟨h, 1, none⟩ = some (.int .i64 j1) ∧ wx.cell? ⟨h, 2, none⟩ = some (.int .i64 j2) ∧ Below wr.heap.size wr wx)
      case first =>
        refine wp_region_held_drew (S := fun w' => Below wr.heap.size wr w') (by kernel_rfl) (below_drewN (Below.refl _ _) 1) ?_
        intro hHeld
        refine take_want (i := 0) (v := ?v0k4) rfl (by kernel_rfl) (by kernel_rfl) (by kernel_rfl) (fun _ _ _ h => h) (by rfl) ?y0k4 (by assumption) ?r0k4
        case y0k4 => (intro w hSw; go_simp; all_goals with_reducible rfl)
        (try simp only [Act.put, List.setIfInBounds_toArray, List.set_cons_zero, List.set_cons_succ])
        refine take_want (i := 1) (v := ?v1k4) rfl (by kernel_rfl) (by kernel_rfl) (by kernel_rfl) (fun _ _ _ h => h) (by rfl) ?y1k4 (by assumption) ?r1k4
        case y1k4 => (intro w hSw; have m0 := cell_on hSw x3; have m1 := cell_on hSw y3; have m2 := cell_on hSw p0; have m3 := cell_on hSw p1; have m4 := cell_on hSw p2; have m5 := cell_on hSw q0; have m6 := cell_on hSw q1; have m7 := cell_on hSw q2; go_simp; all_goals with_reducible rfl)
        (try simp only [Act.put, List.setIfInBounds_toArray, List.set_cons_zero, List.set_cons_succ])
        refine take_want (i := 2) (v := ?v2k4) rfl (by kernel_rfl) (by kernel_rfl) (by kernel_rfl) (fun _ _ _ h => h) (by rfl) ?y2k4 (by assumption) ?r2k4
        case y2k4 => (intro w hSw; go_simp; all_goals with_reducible rfl)
        (try simp only [Act.put, List.setIfInBounds_toArray, List.set_cons_zero, List.set_cons_succ])
        refine take_want (i := 3) (v := ?v3k4) rfl (by kernel_rfl) (by kernel_rfl) (by kernel_rfl) (fun _ _ _ h => h) (by rfl) ?y3k4 (by assumption) ?r3k4
        case y3k4 => (intro w hSw; go_simp; all_goals with_reducible rfl)
        (try simp only [Act.put, List.setIfInBounds_toArray, List.set_cons_zero, List.set_cons_succ])
        refine take_want (i := 4) (v := ?v4k4) rfl (by kernel_rfl) (by kernel_rfl) (by kernel_rfl) (fun _ _ _ h => h) (by rfl) ?y4k4 (by assumption) ?r4k4
        case y4k4 => (intro w hSw; have m0 := cell_on hSw x3; have m1 := cell_on hSw y3; have m2 := cell_on hSw p0; have m3 := cell_on hSw p1; have m4 := cell_on hSw p2; have m5 := cell_on hSw q0; have m6 := cell_on hSw q1; have m7 := cell_on hSw q2; go_simp; all_goals with_reducible rfl)
        (try simp only [Act.put, List.setIfInBounds_toArray, List.set_cons_zero, List.set_cons_succ])
        refine take_want (i := 5) (v := ?v5k4) rfl (by kernel_rfl) (by kernel_rfl) (by kernel_rfl) (fun _ _ _ h => h) (by rfl) ?y5k4 (by assumption) ?r5k4
        case y5k4 => (intro w hSw; go_simp; all_goals with_reducible rfl)
        (try simp only [Act.put, List.setIfInBounds_toArray, List.set_cons_zero, List.set_cons_succ])
        refine take_want (i := 6) (v := ?v6k4) rfl (by kernel_rfl) (by kernel_rfl) (by kernel_rfl) (fun _ _ _ h => h) (by rfl) ?y6k4 (by assumption) ?r6k4
        case y6k4 => (intro w hSw; have m0 := cell_on hSw x3; have m1 := cell_on hSw y3; have m2 := cell_on hSw p0; have m3 := cell_on hSw p1; have m4 := cell_on hSw p2; have m5 := cell_on hSw q0; have m6 := cell_on hSw q1; have m7 := cell_on hSw q2; go_simp; all_goals with_reducible rfl)
        (try simp only [Act.put, List.setIfInBounds_toArray, List.set_cons_zero, List.set_cons_succ])
        refine take_want (i := 7) (v := ?v7k4) rfl (by kernel_rfl) (by kernel_rfl) (by kernel_rfl) (fun _ _ _ h => h) (by rfl) ?y7k4 (by assumption) ?r7k4
        case y7k4 => (intro w hSw; go_simp; all_goals with_reducible rfl)
        (try simp only [Act.put, List.setIfInBounds_toArray, List.set_cons_zero, List.set_cons_succ])
        refine take_want (i := 8) (v := ?v8k4) rfl (by kernel_rfl) (by kernel_rfl) (by kernel_rfl) (fun _ _ _ h => h) (by rfl) ?y8k4 (by assumption) ?r8k4
        case y8k4 => (intro w hSw; go_simp; all_goals with_reducible rfl)
        (try simp only [Act.put, List.setIfInBounds_toArray, List.set_cons_zero, List.set_cons_succ])
        refine take_want (i := 9) (v := ?v9k4) rfl (by kernel_rfl) (by kernel_rfl) (by kernel_rfl) (fun _ _ _ h => h) (by rfl) ?y9k4 (by assumption) ?r9k4
        case y9k4 => (intro w hSw; have m0 := cell_on hSw x3; have m1 := cell_on hSw y3; have m2 := cell_on hSw p0; have m3 := cell_on hSw p1; have m4 := cell_on hSw p2; have m5 := cell_on hSw q0; have m6 := cell_on hSw q1; have m7 := cell_on hSw q2; go_simp; all_goals with_reducible rfl)
        (try simp only [Act.put, List.setIfInBounds_toArray, List.set_cons_zero, List.set_cons_succ])
        refine wpAnyH_ready (rs := [10, 14]) (by kernel_rfl) (by simp) ?_
        refine AllReadyH.cons rfl (fun K hK => ?_) (AllReadyH.cons rfl (fun K hK => ?_) AllReadyH.nil)
        · go_simp
          (go_at_call 112; refine (HAJ.out _).mono ?_; rintro e w8 ⟨rfl, hb⟩)
          refine hK.out _ _ (bthen hHeld hb) (fun hHeld => ?_)
          clear hK K
          (try simp only [Act.put, List.setIfInBounds_toArray, List.set_cons_zero, List.set_cons_succ])
          refine take_want (i := 11) (v := ?v11k5) rfl (by kernel_rfl) (by kernel_rfl) (by kernel_rfl) (fun _ _ _ h => h) (by rfl) ?y11k5 (by assumption) ?r11k5
          case y11k5 => (intro w hSw; go_simp; all_goals with_reducible rfl)
          (try simp only [Act.put, List.setIfInBounds_toArray, List.set_cons_zero, List.set_cons_succ])
          refine take_want (i := 12) (v := ?v12k5) rfl (by kernel_rfl) (by kernel_rfl) (by kernel_rfl) (fun _ _ _ h => h) (by rfl) ?y12k5 (by assumption) ?r12k5
          case y12k5 => (intro w hSw; go_simp; all_goals with_reducible rfl)
          (try simp only [Act.put, List.setIfInBounds_toArray, List.set_cons_zero, List.set_cons_succ])
          refine take_want (i := 13) (v := ?v13k5) rfl (by kernel_rfl) (by kernel_rfl) (by kernel_rfl) (fun _ _ _ h => h) (by rfl) ?y13k5 (by assumption) ?r13k5
          case y13k5 => (intro w hSw; go_simp; all_goals with_reducible rfl)
          (try simp only [Act.put, List.setIfInBounds_toArray, List.set_cons_zero, List.set_cons_succ])
          refine wpAnyH_ready (rs := [14]) (by kernel_rfl) (by simp) ?_
          refine AllReadyH.cons rfl (fun K hK => ?_) AllReadyH.nil
          go_simp
          refine hK.out _ _ (bpush hHeld _) (fun hHeld => ?_)
          clear hK K
          (try simp only [Act.put, List.setIfInBounds_toArray, List.set_cons_zero, List.set_cons_succ])
          obtain ⟨w9, hw9⟩ : ∃ w9, w9 = w8.alloc (.cells #[.int .i64 0, .int .i64 0, .int .i64 0] 64) := ⟨_, rfl⟩
          have hbx := made_three w8 64 w9 hw9
          have hge0 : wr.heap.size ≤ w8.heap.size := by have := hb.size; simpa using this
          rw [← hw9] at hHeld ⊢
          clear hw9 hb
          have HBX := Lib.hid (show w9.cell? ⟨w8.heap.size, 0, none⟩ = some (.int .i64 0) ∧ w9.cell? ⟨w8.heap.size, 1, none⟩ = some (.int .i64 0) ∧ w9.cell? ⟨w8.heap.size, 2, none⟩ = some (.int .i64 0) ∧ ∀ o, w9.frozen? ⟨w8.heap.size, o, none⟩ = false from hbx)
          clear hbx
          obtain ⟨e0, e1, e2, ef⟩ := HBX.out
          refine wpAnyH_ready (rs := [15]) (by kernel_rfl) (by simp) ?_
          refine AllReadyH.cons rfl (fun K hK => ?_) AllReadyH.nil
          go_simp
          have hBs := bset (bset (bset hHeld (o := 0) hge0 (.int .i64 j0)) (o := 1) hge0 (.int .i64 j1)) (o := 2) hge0 (.int .i64 j2)
          refine hK.out _ _ (by first | exact hBs | (simp at hBs ⊢; exact hBs)) (fun hHeld2 => ?_)
          clear hK K
          (try simp only [Act.put, List.setIfInBounds_toArray, List.set_cons_zero, List.set_cons_succ])
          refine take_want (i := 16) (v := ?v16k5) rfl (by kernel_rfl) (by kernel_rfl) (by kernel_rfl) (fun _ _ _ h => h) (by rfl) ?y16k5 (by assumption) ?r16k5
          case y16k5 => (intro w hSw; go_simp; all_goals with_reducible rfl)
          (try simp only [Act.put, List.setIfInBounds_toArray, List.set_cons_zero, List.set_cons_succ])
          refine wpAnyH_done (by kernel_rfl) ?_ _
          go_wp2_with fail
          go_meet
          exact ⟨w8.heap.size, rfl, rfl, (set_three HBX.out _ _ _).1, (set_three HBX.out _ _ _).2.1, (set_three HBX.out _ _ _).2.2, hHeld2⟩
        · go_simp
          refine hK.out _ _ (bpush hHeld _) (fun hHeld => ?_)
          clear hK K
          (try simp only [Act.put, List.setIfInBounds_toArray, List.set_cons_zero, List.set_cons_succ])
          obtain ⟨wA, hwA⟩ : ∃ wA, wA = (wr.alloc (.cells #[.int .i64 0, .int .i64 0, .int .i64 0] 64)).drew := ⟨_, rfl⟩
          have hbA := made_three_drew wr 64 wA hwA
          rw [← hwA] at hHeld ⊢
          clear hwA
          refine wpAnyH_ready (rs := [10]) (by kernel_rfl) (by simp) ?_
          refine AllReadyH.cons rfl (fun K hK => ?_) AllReadyH.nil
          go_simp
          (go_at_call 112; refine (HAJ.out _).mono ?_; rintro e w9 ⟨rfl, hb⟩)
          refine hK.out _ _ (bthen hHeld hb) (fun hHeld => ?_)
          clear hK K
          (try simp only [Act.put, List.setIfInBounds_toArray, List.set_cons_zero, List.set_cons_succ])
          refine take_want (i := 11) (v := ?v11k6) rfl (by kernel_rfl) (by kernel_rfl) (by kernel_rfl) (fun _ _ _ h => h) (by rfl) ?y11k6 (by assumption) ?r11k6
          case y11k6 => (intro w hSw; go_simp; all_goals with_reducible rfl)
          (try simp only [Act.put, List.setIfInBounds_toArray, List.set_cons_zero, List.set_cons_succ])
          refine take_want (i := 12) (v := ?v12k6) rfl (by kernel_rfl) (by kernel_rfl) (by kernel_rfl) (fun _ _ _ h => h) (by rfl) ?y12k6 (by assumption) ?r12k6
          case y12k6 => (intro w hSw; go_simp; all_goals with_reducible rfl)
          (try simp only [Act.put, List.setIfInBounds_toArray, List.set_cons_zero, List.set_cons_succ])
          refine take_want (i := 13) (v := ?v13k6) rfl (by kernel_rfl) (by kernel_rfl) (by kernel_rfl) (fun _ _ _ h => h) (by rfl) ?y13k6 (by assumption) ?r13k6
          case y13k6 => (intro w hSw; go_simp; all_goals with_reducible rfl)
          (try simp only [Act.put, List.setIfInBounds_toArray, List.set_cons_zero, List.set_cons_succ])
          have hbx := keep_three hbA hb
          have hge0 : wr.heap.size ≤ wr.heap.size := Nat.le_refl _
          clear hb hbA
          have HBX := Lib.hid (show w9.cell? ⟨wr.heap.size, 0, none⟩ = some (.int .i64 0) ∧ w9.cell? ⟨wr.heap.size, 1, none⟩ = some (.int .i64 0) ∧ w9.cell? ⟨wr.heap.size, 2, none⟩ = some (.int .i64 0) ∧ ∀ o, w9.frozen? ⟨wr.heap.size, o, none⟩ = false from hbx)
          clear hbx
          obtain ⟨e0, e1, e2, ef⟩ := HBX.out
          refine wpAnyH_ready (rs := [15]) (by kernel_rfl) (by simp) ?_
          refine AllReadyH.cons rfl (fun K hK => ?_) AllReadyH.nil
          go_simp
          have hBs := bset (bset (bset hHeld (o := 0) hge0 (.int .i64 j0)) (o := 1) hge0 (.int .i64 j1)) (o := 2) hge0 (.int .i64 j2)
          refine hK.out _ _ (by first | exact hBs | (simp at hBs ⊢; exact hBs)) (fun hHeld2 => ?_)
          clear hK K
          (try simp only [Act.put, List.setIfInBounds_toArray, List.set_cons_zero, List.set_cons_succ])
          refine take_want (i := 16) (v := ?v16k6) rfl (by kernel_rfl) (by kernel_rfl) (by kernel_rfl) (fun _ _ _ h => h) (by rfl) ?y16k6 (by assumption) ?r16k6
          case y16k6 => (intro w hSw; go_simp; all_goals with_reducible rfl)
          (try simp only [Act.put, List.setIfInBounds_toArray, List.set_cons_zero, List.set_cons_succ])
          refine wpAnyH_done (by kernel_rfl) ?_ _
          go_wp2_with fail
          go_meet
          exact ⟨wr.heap.size, rfl, rfl, (set_three HBX.out _ _ _).1, (set_three HBX.out _ _ _).2.1, (set_three HBX.out _ _ _).2.2, hHeld2⟩
      case rest =>
        obtain ⟨h, rfl, rfl, f0, f1, f2, hbx⟩ := hcut
        have HBX9 := Lib.hid (HBXR.out.keep hbx)
        have HOV9 := Lib.hid (own_below3 HOV.out hbx)
        have HN9 := Lib.hid (HNR.out.trans (Near.of (k := g) hbx hlr))
        have HZ := Lib.hid (HZ.out.keep hbx)
        have HWR := Lib.hid (bthen HWR.out hbx)
        have hlc : wl.heap.size ≤ wc.heap.size := by have := hbx.size; omega
        clear hbx p0 p1 p2 q0 q1 q2
        by_cases hje : je = 0
        case neg =>
          have z9 : (je != 0) = true := by rw [bne_iff_ne]; exact hje
          have HR3 := Lib.hid (show r = (RV.zero, 121) by
            have h8 : je = 121 := HJE.out.resolve_left hje
            rw [HR2.out, HJ.out.bad hkX hkY hje HJA.out, if_neg hje, h8])
          clear hje
          obtain ⟨b0, b1, b2, b3, bf⟩ := HZ.out
          go_wp2_with fail
          obtain ⟨W2, hW2⟩ : ∃ W2, W2 = ((((wc.setCell ⟨w.heap.size + 1 + 1, 0, none⟩ (.int .i64 0)).setCell ⟨w.heap.size + 1 + 1, 1, none⟩ (.slice none 0 0)).setCell ⟨w.heap.size + 1 + 1, 2, none⟩ (.int .i64 0)).setCell ⟨w.heap.size + 1 + 1, 3, none⟩ (.slice none 0 0)) := ⟨_, rfl⟩
          have HX2 := Lib.hid (HZ.out.all (.int .i64 0) (.slice none 0 0) (.int .i64 0) (.slice none 0 0))
          have HB2 := Lib.hid (bset (bset (bset (bset HWR.out (b := w.heap.size + 1 + 1) (o := 0) (by omega) (.int .i64 0)) (b := w.heap.size + 1 + 1) (o := 1) (by omega) (.slice none 0 0)) (b := w.heap.size + 1 + 1) (o := 2) (by omega) (.int .i64 0)) (b := w.heap.size + 1 + 1) (o := 3) (by omega) (.slice none 0 0))
          rw [← hW2] at HX2 HB2 ⊢
          clear hW2 b0 b1 b2 b3 bf
          obtain ⟨b0, b1, b2, b3, bf⟩ := HX2.out
          exact bodyPost_ret (v := (.tuple #[.agg #[.int .i64 0, .slice none 0 0, .int .i64 0, .slice none 0 0], .int .i64 121])) (by simp [results, Tryz.results85, go_sem, b0, b1, b2, b3]) rfl (JoinPost.none HR3.out HB2.out)
        case pos =>
          subst hje
          have HST := Lib.hid (HJ.out.step hkX hkY HJA.out)
          obtain ⟨e0, e1, e2, e3, ef⟩ := HBX9.out
          go_wp2_with (at_builtin; refine wpList_append_own_at _ rfl _ _ 57 rfl wl.heap.size 64 i0 (.agg #[.int .i64 0, .int .i64 0, .int .i64 0]) 3 24 Tryz.underlying57 hi0 hz0 hz1 hz2 rfl (by decide) v k0 (cellsG P) rfl (HOV9.out.alloc _) ⟨wc.heap.size, 0, none⟩ 1 1 [.int .i64 j0, .int .i64 j1, .int .i64 j2] rfl rfl (Row.made rfl rfl).at' (by intro u hu; simp at hu; rcases hu with rfl | rfl | rfl <;> rfl) (by unfold maxLen; have := HS3.out; omega) (by have := HS3.out; omega) (by simp; omega) ?_)
          intro v5 w5 ho5 hg5 _ hd5
          have ho6 : w5.ownsRow wl.heap.size 64 3 v5 (k0 + 1) (cellsG (P ++ [(j0, j1, j2)])) := by rw [cellsG_app]; exact ho5
          obtain ⟨hl5, A5, c5, rfl, hr5, hm5, hx5, hy5⟩ := own_slice3 ho6
          clear hl5 hr5 hm5 hx5 hy5 ho5
          have hb5 : Below wl.heap.size (wc.alloc (.cells #[.int .i64 j0, .int .i64 j1, .int .i64 j2] 64)) w5 := grown_own3 (HOV9.out.alloc _) hg5 (by simp; omega)
          have hvg : v.ownBlock ≠ some g := own_apart HOV9.out hgl
          have HB5 := Lib.hid ((HBX9.out.keep (bpush (Below.refl _ _) (.cells #[.int .i64 j0, .int .i64 j1, .int .i64 j2] 64))).grown hg5 hvg)
          have HN5 := Lib.hid (((HN9.out.trans (Near.of (k := g) (bpush (Below.refl _ _) (.cells #[.int .i64 j0, .int .i64 j1, .int .i64 j2] 64)) hlc)).trans (Near.of (k := g) hb5 (Nat.le_refl _))).set (b := g) (o := 3) (.inl rfl) (.slice A5 (k0 + 1) c5))
          have HO5 := Lib.hid (own_set' (o := 3) (u := .slice A5 (k0 + 1) c5) ho6 (own_apart ho6 hgl))
          clear ho6 hg5 hd5 hb5 hvg e0 e1 e2 e3 ef
          obtain ⟨e0, e1, e2, e3, ef⟩ := HB5.out
          go_wp2_with fail
          go_roundw
          case rel => exact ⟨k0 + 1, P ++ [(j0, j1, j2)], .slice A5 (k0 + 1) c5, by go_num, by have := HLT.out; omega, Lib.hid (by rw [List.length_append, HP.out]; rfl), HST, HO5, Lib.hid (HB5.out.set3 _), HN5⟩
          case measure => have := HLT.out; simp [intOf]; omega
theorem refjoin_any (y z : RZ) (w : World) (hy : Good w y) (hz : Good w z) (hk1 : 0 ≤ y.2.count ∧ y.2.count ≤ 1048576) (hk2 : 0 ≤ z.2.count ∧ z.2.count ≤ 1048576) (hl : y.2.aggs.length = z.2.aggs.length) (h1 : ∀ a ∈ y.2.aggs, okA a) (h2 : ∀ a ∈ z.2.aggs, okA a) :
    Calls Tryz.prog 85 #[.agg (encR y).toArray, .agg (encR z).toArray] w (JoinPost w (joinR y.2 z.2)) :=
  refjoin_raw y.2.t z.2.t y.2.count z.2.count y.1.D z.1.D y.1.G z.1.G y.1.n y.1.c z.1.n z.1.c y.1.gn y.1.gc z.1.gn z.1.gc y.2.dims z.2.dims y.2.aggs z.2.aggs w hy.rd hz.rd hy.rg hz.rg hy.nd hz.nd hy.ng hz.ng hy.cd hy.ad hy.sd hz.sd hy.sg hz.sg hk1 hk2 (by rw [hy.ng, hz.ng, hl]) h1 h2 _ rfl
end Go.Proofs.YtmmeekmiildliaaGreatDoor
