/- The walk of IngestCharges (3). -/
import Derived.Test.YtmmeekmiildliaaGreatDoorIT
namespace Go.Proofs.YtmmeekmiildliaaGreatDoor
open Go.RowKit
set_option linter.unusedSimpArgs false
set_option linter.unusedVariables false
theorem run_append_ints (w : World) (ty : TypeId) (base : Nat) (v : Value) (n : Nat) (xs : List Value) (hown : w.ownsRow base 3 1 v n xs) (A : Option Addr) (m c : Nat) (M : List Int)
    (hrow : Row w A (intsV M)) (hm : m = M.length) (hmc : m ≤ c) (ha : A = none → c = 0) (h63 : (n + m) * 8 ≤ 140737488355328) (hbase : base ≤ w.heap.size) :
    ∃ v' w', (Builtin.append_ #[25, 25] ty #[v, .slice A m c]).run Tryz.prog w = .ok v' w' ∧ w'.ownsRow base 3 1 v' (n + m) (xs ++ intsV M) ∧ w.grownBy w' v.ownBlock ∧ (v'.ownBlock = v.ownBlock ∨ v'.ownBlock = some w.heap.size) := by
  obtain ⟨i0, hi0, hz0, hz1, hz2⟩ := info_parts infoI
  cases A with
  | none =>
    have e1 : c = 0 := ha rfl
    have e2 : m = 0 := by omega
    have e3 : M = [] := List.eq_nil_of_length_eq_zero (by omega)
    subst e1 e2 e3
    have hrun := run_append_owned_none (P := Tryz.prog) (w := w) base 25 ty 3 i0 1 Tryz.underlying25 hi0 v n xs hown
    exact ⟨v, w, hrun, by simpa using hown, ⟨rfl, rfl, rfl, Nat.le_refl _, fun _ _ _ => rfl⟩, .inl rfl⟩
  | some a =>
    obtain ⟨v', w', hr, h2, h3, _, h5⟩ := run_append_own_at (P := Tryz.prog) w base 25 ty 3 i0 (.int .i64 0) 1 8 Tryz.underlying25 hi0 hz0 hz1 hz2 rfl (by decide) v n xs hown a m c (intsV M) (by rw [Nat.mul_one]; simpa using hm.symm) hrow.at' (one_intsV M) (by unfold maxLen; omega) h63 hbase
    exact ⟨v', w', hr, h2, h3, h5⟩
theorem step_append_ints {w : World} {ops : Array Oper} {o : Oper} {a : Act} {K : Act → World → Prop} {Q : Exit → Act → World → Prop} {E : Prop} (hgd : o.guard = none) (s x : Operand)
    (ho : o.op = .call { callee := .builtin .append, args := #[s, x], argTypes := #[25, 25] })
    (base : Nat) (v : Value) (n : Nat) (xs : List Value) (hs : a.eval s = v) (A : Option Addr) (m c : Nat) (M : List Int) (hx : a.eval x = .slice A m c) (hown : w.ownsRow base 3 1 v n xs)
    (hrow : Row w A (intsV M)) (hm : m = M.length) (hmc : m ≤ c) (ha : A = none → c = 0) (h63 : (n + m) * 8 ≤ 140737488355328) (hbase : base ≤ w.heap.size)
    (h : ∀ v' w', w'.ownsRow base 3 1 v' (n + m) (xs ++ intsV M) → w.grownBy w' v.ownBlock → (v'.ownBlock = v.ownBlock ∨ v'.ownBlock = some w.heap.size) → K (a.put o.dst v') w') :
    if Region.wanted o (yielded ops a.tmps) = true then Oper.wp Tryz.prog o a w K Q else E := by
  have hw : Region.wanted o (yielded ops a.tmps) = true := by simp [Region.wanted, hgd]
  rw [if_pos hw]
  obtain ⟨v', w', hr, h2, h3, h4⟩ := run_append_ints w o.type base v n xs hown A m c M hrow hm hmc ha h63 hbase
  unfold Oper.wp execOp
  simp only [ho, resolve, invoke, builtin, Sem.run_bind, Sem.run_pure, Result.andThen_ok, List.map_toArray, List.map_cons, List.map_nil, hs, hx, hr]
  exact h v' w' h2 h3 h4
set_option maxRecDepth 100000 in
set_option maxHeartbeats 16000000 in
theorem charges_walk (A E SA : Option Addr) (n c m d sn sc : Nat) (k : Int) (L M : List ByteArray) (S : List Int) (z : EV) (w : World) (hT : Tab w) (hA : Row w A (texts L)) (hB : Row w E (texts M)) (hS : Row w SA (intsV S)) (hz : EvG w z) (hn : n = L.length) (hm : m = M.length) (hsn : sn = S.length) (hnc : n ≤ c) (hmd : m ≤ d) (hss : sn ≤ sc) (ha : A = none → c = 0) (hb : E = none → d = 0) (hsa : SA = none → sc = 0)
    (hL : ∀ s ∈ L, s.size ≤ 9223372036854775807) (hM : ∀ s ∈ M, s.size ≤ 9223372036854775807) (hn2 : n ≤ 9223372036854775807) (hm2 : m ≤ 9223372036854775807) (hp2 : z.p ≤ 9223372036854775807) (hx2 : z.x ≤ 9223372036854775807) :
    Calls Tryz.prog 3 #[.agg #[.slice A n c, .slice E m d], .agg #[.int .i64 k, .slice SA sn sc], .agg #[.int .i64 z.t, .slice z.E z.p z.q, .slice z.F z.x z.y]] w fun e w' => e = .returned (.bool true) ∧ Below w.heap.size w w' := by
  obtain ⟨W0, hW0⟩ : ∃ W0, W0 = ((w.alloc (.cells #[.slice A n c, .slice E m d] 24)).alloc (.cells #[.int .i64 k, .slice SA sn sc] 27)).alloc (.cells #[.int .i64 z.t, .slice z.E z.p z.q, .slice z.F z.x z.y] 29) := ⟨_, rfl⟩
  obtain ⟨W1, hW1⟩ : ∃ W1, W1 = W0.alloc (.cells #[.int .i64 z.t, .slice z.E z.p z.q, .slice z.F z.x z.y] 29) := ⟨_, rfl⟩
  have hb0 : Below w.heap.size w W0 := by rw [hW0]; exact bpush (bpush (bpush (Below.refl _ _) _) _) _
  have hb1 : Below W0.heap.size W0 W1 := by rw [hW1]; exact bpush (Below.refl _ _) _
  have hb01 := bthen hb0 hb1
  have HSZ := Lib.hid (show W0.heap.size = w.heap.size + 3 by rw [hW0]; simp)
  have HC0 := Lib.hid (show ∀ W, Below W0.heap.size W0 W → (W.cell? ⟨w.heap.size, 0, none⟩ = some (.slice A n c) ∧ W.cell? ⟨w.heap.size, 1, none⟩ = some (.slice E m d)) ∧ (W.cell? ⟨w.heap.size + 1, 0, none⟩ = some (.int .i64 k) ∧ W.cell? ⟨w.heap.size + 1, 1, none⟩ = some (.slice SA sn sc)) ∧ (W.cell? ⟨w.heap.size + 1 + 1, 0, none⟩ = some (.int .i64 z.t) ∧ W.cell? ⟨w.heap.size + 1 + 1, 1, none⟩ = some (.slice z.E z.p z.q) ∧ W.cell? ⟨w.heap.size + 1 + 1, 2, none⟩ = some (.slice z.F z.x z.y)) from fun W hW => by
    refine ⟨⟨cell_on hW ?_, cell_on hW ?_⟩, ⟨cell_on hW ?_, cell_on hW ?_⟩, cell_on hW ?_, cell_on hW ?_, cell_on hW ?_⟩
    all_goals rw [hW0]
    · exact cell_on (bpush (bpush (Below.refl _ _) _) _) (cell_made rfl rfl)
    · exact cell_on (bpush (bpush (Below.refl _ _) _) _) (cell_made rfl rfl)
    · exact cell_on (bpush (Below.refl _ _) _) (cell_made (by simp) rfl)
    · exact cell_on (bpush (Below.refl _ _) _) (cell_made (by simp) rfl)
    · exact cell_made (by simp) rfl
    · exact cell_made (by simp) rfl
    · exact cell_made (by simp) rfl)
  obtain ⟨r, hr⟩ := bool_of (FitsE L M [z])
  have HF := Lib.hid (fitsev_any A E (some ⟨W0.heap.size, 0, none⟩) n c m d 1 1 L M [z] W1 (hA.keep (Nat.le_refl _) hb01) (hB.keep (Nat.le_refl _) hb01) (by rw [hW1]; exact one_ev (hz.keep (Nat.le_refl _) hb0)) hn hm rfl hn2 hm2 (by omega) (fun y hy => by rw [List.mem_singleton.1 hy]; exact ⟨hp2, hx2⟩) r hr)
  have HT := Lib.hid hT
  have HAA := Lib.hid hA
  have HBB := Lib.hid hB
  have HRS0 := Lib.hid hS
  have HZ := Lib.hid hz
  have HNL := Lib.hid hn
  have HMM := Lib.hid hm
  have HSN := Lib.hid hsn
  have HSC := Lib.hid hss
  have HSA := Lib.hid hsa
  have HLL := Lib.hid hL
  have HML := Lib.hid hM
  have HNC := Lib.hid hnc
  have HMD := Lib.hid hmd
  have HNA := Lib.hid ha
  have HEA := Lib.hid hb
  have HR := Lib.hid hr
  have HB0 := Lib.hid hb0
  have HB1 := Lib.hid hb1
  have HW0 := Lib.hid hW0
  have HW1 := Lib.hid hW1
  obtain ⟨⟨x0, x1⟩, ⟨y0, y1⟩, z0, z1, z2⟩ := HC0.out W0 (Below.refl _ _)
  clear hT hA hB hS hz hn hm hsn hnc hmd hss ha hb hsa hL hM hn2 hm2 hp2 hx2 hb0 hb1 hb01 hW0 hW1 hr
  go_enter Tryz.func3, Tryz.ntmps3
  go_upto_region 1 with fail
  rw [← HW0.out]
  go_upto_region 2 with (rw [← HW1.out]; go_at_call 8; refine HF.out.mono ?_; rintro e w2 ⟨rfl, hb2⟩)
  have HB2 := Lib.hid (bthen HB1.out hb2)
  have HBA := Lib.hid (bthen HB0.out HB2.out)
  have HT2 := Lib.hid (HT.out.keep HBA.out)
  clear hb2 HF HW0 HW1 x0 x1 y0 y1 z0 z1 z2
  obtain ⟨⟨x0, x1⟩, ⟨y0, y1⟩, z0, z1, z2⟩ := HC0.out w2 HB2.out
  have HAL := Lib.hid (alive_any w2 HT2.out)
  cases r with
  | false =>
    go_wp2_with (go_at_call 10; refine HAL.out.mono ?_; rintro e w3 ⟨rfl, hb3⟩)
    go_ret
    exact ⟨rfl, bthen HBA.out hb3⟩
  | true =>
  have HFT := Lib.hid (HR.out.1 rfl)
  have hn20 : n ≤ 20 := by have := HFT.out.l.1; have := HNL.out; omega
  have hm20 : m ≤ 20 := by have := HFT.out.m.1; have := HMM.out; omega
  obtain ⟨r2, hr2⟩ := bool_of (rightP L M)
  have HRR := Lib.hid (refright_any A E n c m d L M w2 (HAA.out.keep (Nat.le_refl _) HBA.out) (HBB.out.keep (Nat.le_refl _) HBA.out) HNL.out HMM.out HNC.out HMD.out HNA.out HEA.out HLL.out HML.out hn20 (by omega) r2 hr2)
  have HR2 := Lib.hid hr2
  clear hr2 HAL HR
  cases r2 with
  | false =>
    go_wp2_with (first
      | (go_at_call 9; refine HRR.out.mono ?_; rintro e w3 ⟨rfl, hb3⟩; have HB3 := Lib.hid (bthen HBA.out hb3); clear hb3)
      | (go_at_call 10; refine (alive_any _ (HT.out.keep HB3.out)).mono ?_; rintro e w4 ⟨rfl, hb4⟩))
    go_ret
    exact ⟨rfl, bthen HB3.out hb4⟩
  | true =>
  by_cases h20 : 20 < sn
  case pos =>
    have d20 : decide ((20 : Int) < (sn : Int)) = true := by simp; omega
    go_wp2_with (first
      | (go_at_call 9; refine HRR.out.mono ?_; rintro e w3 ⟨rfl, hb3⟩; have HB3 := Lib.hid (bthen HBA.out hb3); have y0 := cell_on hb3 y0; have y1 := cell_on hb3 y1; clear hb3)
      | (go_at_call 10; refine (alive_any _ (HT.out.keep HB3.out)).mono ?_; rintro e w4 ⟨rfl, hb4⟩))
    go_ret
    exact ⟨rfl, bthen HB3.out hb4⟩
  case neg =>
  have d20 : decide ((20 : Int) < (sn : Int)) = false := by simp; omega
  go_upto_region 4 with (go_at_call 9; refine HRR.out.mono ?_; rintro e w3 ⟨rfl, hb3⟩; have HB3 := Lib.hid (bthen HB2.out hb3); have y0 := cell_on hb3 y0; have y1 := cell_on hb3 y1; clear hb3)
  have HSB := Lib.hid (show sn ≤ 20 by omega)
  obtain ⟨WB, hWB⟩ : ∃ W, W = w3 := ⟨_, rfl⟩
  subst hWB
  have HBA := Lib.hid (bthen HB0.out HB3.out)
  have HCEL := Lib.hid (show ∀ W, Below WB.heap.size WB W → W.cell? ⟨w.heap.size + 1, 0, none⟩ = some (.int .i64 k) ∧ W.cell? ⟨w.heap.size + 1, 1, none⟩ = some (.slice SA sn sc) from fun W hW => ⟨cell_on hW y0, cell_on hW y1⟩)
  have HRS := Lib.hid (show Row WB SA (intsV S) from HRS0.out.keep (Nat.le_refl _) HBA.out)
  clear x0 x1 y0 y1 z0 z1 z2 h20
  go_cut [8] (fun s8 wx => ∃ (g : Nat) (D1 : Option Addr) (k1 : Nat), s8 = .pointer (some ⟨g, 0, none⟩) ∧ Hid (Blk wx g 27 #[.int .i64 k, .slice D1 sn k1]) ∧ Hid (wx.ownsRow WB.heap.size 3 1 (.slice D1 sn k1) sn (intsV S)) ∧ Hid (Below WB.heap.size WB wx))
  case first =>
    have hb9 : Below WB.heap.size WB WB.drew := below_drewN (Below.refl _ _) 1
    refine wp_region_held_drew (S := fun W => (W.cell? ⟨w.heap.size + 1, 0, none⟩ = some (.int .i64 k) ∧ W.cell? ⟨w.heap.size + 1, 1, none⟩ = some (.slice SA sn sc)) ∧ Below WB.heap.size WB W) (by kernel_rfl) (⟨HCEL.out _ hb9, hb9⟩) ?_
    intro hHeld
    refine take_want (i := 0) (v := ?v0k1) rfl (by kernel_rfl) (by kernel_rfl) (by kernel_rfl) (fun _ _ _ h => h) (by rfl) ?y0k1 (by assumption) ?r0k1
    case y0k1 => (intro w hSw; go_simp; all_goals with_reducible rfl)
    (try simp only [Act.put, List.setIfInBounds_toArray, List.set_cons_zero, List.set_cons_succ])
    refine take_want (i := 1) (v := ?v1k1) rfl (by kernel_rfl) (by kernel_rfl) (by kernel_rfl) (fun _ _ _ h => h) (by rfl) ?y1k1 (by assumption) ?r1k1
    case y1k1 => (intro w hSw; obtain ⟨⟨q0, q1⟩, -⟩ := hSw; go_simp; all_goals with_reducible rfl)
    (try simp only [Act.put, List.setIfInBounds_toArray, List.set_cons_zero, List.set_cons_succ])
    refine take_want (i := 3) (v := ?v3k1) rfl (by kernel_rfl) (by kernel_rfl) (by kernel_rfl) (fun _ _ _ h => h) (by rfl) ?y3k1 (by assumption) ?r3k1
    case y3k1 => (intro w hSw; go_simp; all_goals with_reducible rfl)
    (try simp only [Act.put, List.setIfInBounds_toArray, List.set_cons_zero, List.set_cons_succ])
    refine take_want (i := 4) (v := ?v4k1) rfl (by kernel_rfl) (by kernel_rfl) (by kernel_rfl) (fun _ _ _ h => h) (by rfl) ?y4k1 (by assumption) ?r4k1
    case y4k1 => (intro w hSw; obtain ⟨⟨q0, q1⟩, -⟩ := hSw; go_simp; all_goals with_reducible rfl)
    (try simp only [Act.put, List.setIfInBounds_toArray, List.set_cons_zero, List.set_cons_succ])
    refine wpAnyH_ready (rs := [2, 7]) (by kernel_rfl) (by simp) ?_
    refine AllReadyH.cons rfl (fun K hK => ?_) (AllReadyH.cons rfl (fun K hK => ?_) AllReadyH.nil)
    · go_simp
      have hk := bpush hHeld.2 (.cells #[] 3)
      refine hK.out _ _ (by first | exact ⟨HCEL.out _ hk, hk⟩ | (simp at hk ⊢; exact ⟨HCEL.out _ hk, hk⟩)) (fun hHeld => ?_)
      clear hK K
      (try simp only [Act.put, List.setIfInBounds_toArray, List.set_cons_zero, List.set_cons_succ])
      obtain ⟨V2, hV2⟩ : ∃ x, x = (WB.alloc (.cells #[] 3)).drew := ⟨_, rfl⟩
      have bV2 : Below WB.heap.size WB V2 := by rw [hV2]; first | exact bpush (Below.refl _ _) _ | exact below_drewN (bpush (Below.refl _ _) _) 1
      have ltV2 : WB.heap.size < V2.heap.size := by rw [hV2]; simp
      have lV2 : WB.heap.size ≤ V2.heap.size := by omega
      have hoe : V2.ownsRow WB.heap.size 3 1 (.slice (some ⟨WB.heap.size, 0, none⟩) 0 0) 0 [] := by rw [hV2]; first | exact own_empty (by omega) | exact own_dr (own_empty (by omega)) 1
      have hrs : Row V2 SA (intsV S) := HRS.out.keep (Nat.le_refl _) bV2
      rw [← hV2] at hHeld ⊢
      clear hV2 hk
      refine wpAnyH_ready (rs := [5, 7]) (by kernel_rfl) (by simp) ?_
      refine AllReadyH.cons rfl (fun K hK => ?_) (AllReadyH.cons rfl (fun K hK => ?_) AllReadyH.nil)
      · refine step_append_ints rfl _ _ rfl WB.heap.size (.slice (some ⟨WB.heap.size, 0, none⟩) 0 0) 0 [] (by first | rfl | (simp; done)) SA sn sc S (by first | rfl | (simp; done)) hoe hrs HSN.out HSC.out HSA.out (by have := HSB.out; omega) (by omega) ?_
        intro v5 w5 ho5 hg5 hd5
        rw [Nat.zero_add, List.nil_append] at ho5
        obtain ⟨A5, c5, rfl⟩ := own_is ho5
        have hb5 : Below WB.heap.size WB w5 := hHeld.2.trans (grown_below hoe hg5 (by omega))
        have hz5 := hg5.size
        refine hK.out _ _ ⟨HCEL.out _ hb5, hb5⟩ (fun hHeld => ?_)
        clear hK K
        (try simp only [Act.put, List.setIfInBounds_toArray, List.set_cons_zero, List.set_cons_succ])
        refine take_want (i := 6) (v := ?v6k3) rfl (by kernel_rfl) (by kernel_rfl) (by kernel_rfl) (fun _ _ _ h => h) (by rfl) ?y6k3 (by assumption) ?r6k3
        case y6k3 => (intro w hSw; go_simp; all_goals with_reducible rfl)
        (try simp only [Act.put, List.setIfInBounds_toArray, List.set_cons_zero, List.set_cons_succ])
        refine wpAnyH_ready (rs := [7]) (by kernel_rfl) (by simp) ?_
        refine AllReadyH.cons rfl (fun K hK => ?_) AllReadyH.nil
        go_simp
        have hk := bpush hHeld.2 (.cells #[.int .i64 0, .slice none 0 0] 27)
        refine hK.out _ _ (by first | exact ⟨HCEL.out _ hk, hk⟩ | (simp at hk ⊢; exact ⟨HCEL.out _ hk, hk⟩)) (fun hHeld => ?_)
        clear hK K
        (try simp only [Act.put, List.setIfInBounds_toArray, List.set_cons_zero, List.set_cons_succ])
        obtain ⟨V7, hV7⟩ : ∃ x, x = w5.alloc (.cells #[.int .i64 0, .slice none 0 0] 27) := ⟨_, rfl⟩
        have bV7 : Below w5.heap.size w5 V7 := by rw [hV7]; first | exact bpush (Below.refl _ _) _ | exact below_drewN (bpush (Below.refl _ _) _) 1
        have ltV7 : w5.heap.size < V7.heap.size := by rw [hV7]; simp
        have lV7 : WB.heap.size ≤ V7.heap.size := by omega
        have hbx : Blk V7 w5.heap.size 27 #[.int .i64 0, .slice none 0 0] := by rw [hV7]; exact Blk.new w5 27 _
        rw [← hV7] at hHeld ⊢
        clear hV7 hk
        have ho5 := own_below ho5 bV7
        have HBX := Lib.hid hbx
        have HO1 := Lib.hid ho5
        clear hbx ho5 hoe hrs
        have e0 := HBX.out.cell 0
        have e1 := HBX.out.cell 1
        simp at e0 e1
        have ef := HBX.out.frozen
        have hge : WB.heap.size ≤ w5.heap.size := by omega
        refine wpAnyH_ready (rs := [8]) (by kernel_rfl) (by simp) ?_
        refine AllReadyH.cons rfl (fun K hK => ?_) AllReadyH.nil
        go_simp
        have hBs := bset (bset hHeld.2 (b := w5.heap.size) (o := 0) hge (.int .i64 k)) (b := w5.heap.size) (o := 1) hge (.slice A5 sn c5)
        refine hK.out _ _ (by first | exact ⟨HCEL.out _ hBs, hBs⟩ | (simp at hBs ⊢; exact ⟨HCEL.out _ hBs, hBs⟩)) (fun hHeld2 => ?_)
        clear hK K
        (try simp only [Act.put, List.setIfInBounds_toArray, List.set_cons_zero, List.set_cons_succ])
        refine wpAnyH_done (by kernel_rfl) ?_ _
        go_wp2_with fail
        go_meet
        have hbx2 := (HBX.out.set_ 0 (.int .i64 k)).set_ 1 (.slice A5 sn c5)
        simp at hbx2
        have hnb := HO1.out.not_blk HBX.out (by decide)
        exact ⟨w5.heap.size, A5, c5, rfl, Lib.hid hbx2, Lib.hid (own_set' (own_set' HO1.out hnb) hnb), Lib.hid hHeld2.2⟩
      · go_simp
        have hk := bpush hHeld.2 (.cells #[.int .i64 0, .slice none 0 0] 27)
        refine hK.out _ _ (by first | exact ⟨HCEL.out _ hk, hk⟩ | (simp at hk ⊢; exact ⟨HCEL.out _ hk, hk⟩)) (fun hHeld => ?_)
        clear hK K
        (try simp only [Act.put, List.setIfInBounds_toArray, List.set_cons_zero, List.set_cons_succ])
        obtain ⟨V7, hV7⟩ : ∃ x, x = V2.alloc (.cells #[.int .i64 0, .slice none 0 0] 27) := ⟨_, rfl⟩
        have bV7 : Below V2.heap.size V2 V7 := by rw [hV7]; first | exact bpush (Below.refl _ _) _ | exact below_drewN (bpush (Below.refl _ _) _) 1
        have ltV7 : V2.heap.size < V7.heap.size := by rw [hV7]; simp
        have lV7 : WB.heap.size ≤ V7.heap.size := by omega
        have hbx : Blk V7 V2.heap.size 27 #[.int .i64 0, .slice none 0 0] := by rw [hV7]; exact Blk.new V2 27 _
        rw [← hV7] at hHeld ⊢
        clear hV7 hk
        have hoe := own_below hoe bV7
        have hrs := hrs.keep (Nat.le_refl _) bV7
        refine wpAnyH_ready (rs := [5]) (by kernel_rfl) (by simp) ?_
        refine AllReadyH.cons rfl (fun K hK => ?_) AllReadyH.nil
        refine step_append_ints rfl _ _ rfl WB.heap.size (.slice (some ⟨WB.heap.size, 0, none⟩) 0 0) 0 [] (by first | rfl | (simp; done)) SA sn sc S (by first | rfl | (simp; done)) hoe hrs HSN.out HSC.out HSA.out (by have := HSB.out; omega) (by omega) ?_
        intro v5 w5 ho5 hg5 hd5
        rw [Nat.zero_add, List.nil_append] at ho5
        obtain ⟨A5, c5, rfl⟩ := own_is ho5
        have hb5 : Below WB.heap.size WB w5 := hHeld.2.trans (grown_below hoe hg5 (by omega))
        have hz5 := hg5.size
        refine hK.out _ _ ⟨HCEL.out _ hb5, hb5⟩ (fun hHeld => ?_)
        clear hK K
        (try simp only [Act.put, List.setIfInBounds_toArray, List.set_cons_zero, List.set_cons_succ])
        refine take_want (i := 6) (v := ?v6k4) rfl (by kernel_rfl) (by kernel_rfl) (by kernel_rfl) (fun _ _ _ h => h) (by rfl) ?y6k4 (by assumption) ?r6k4
        case y6k4 => (intro w hSw; go_simp; all_goals with_reducible rfl)
        (try simp only [Act.put, List.setIfInBounds_toArray, List.set_cons_zero, List.set_cons_succ])
        have hbx := hbx.grown hg5 (by intro e; have e2 : WB.heap.size = V2.heap.size := Option.some.inj e; omega)
        have HBX := Lib.hid hbx
        have HO1 := Lib.hid ho5
        clear hbx ho5 hoe hrs
        have e0 := HBX.out.cell 0
        have e1 := HBX.out.cell 1
        simp at e0 e1
        have ef := HBX.out.frozen
        have hge : WB.heap.size ≤ V2.heap.size := by omega
        refine wpAnyH_ready (rs := [8]) (by kernel_rfl) (by simp) ?_
        refine AllReadyH.cons rfl (fun K hK => ?_) AllReadyH.nil
        go_simp
        have hBs := bset (bset hHeld.2 (b := V2.heap.size) (o := 0) hge (.int .i64 k)) (b := V2.heap.size) (o := 1) hge (.slice A5 sn c5)
        refine hK.out _ _ (by first | exact ⟨HCEL.out _ hBs, hBs⟩ | (simp at hBs ⊢; exact ⟨HCEL.out _ hBs, hBs⟩)) (fun hHeld2 => ?_)
        clear hK K
        (try simp only [Act.put, List.setIfInBounds_toArray, List.set_cons_zero, List.set_cons_succ])
        refine wpAnyH_done (by kernel_rfl) ?_ _
        go_wp2_with fail
        go_meet
        have hbx2 := (HBX.out.set_ 0 (.int .i64 k)).set_ 1 (.slice A5 sn c5)
        simp at hbx2
        have hnb := HO1.out.not_blk HBX.out (by decide)
        exact ⟨V2.heap.size, A5, c5, rfl, Lib.hid hbx2, Lib.hid (own_set' (own_set' HO1.out hnb) hnb), Lib.hid hHeld2.2⟩
    · go_simp
      have hk := bpush hHeld.2 (.cells #[.int .i64 0, .slice none 0 0] 27)
      refine hK.out _ _ (by first | exact ⟨HCEL.out _ hk, hk⟩ | (simp at hk ⊢; exact ⟨HCEL.out _ hk, hk⟩)) (fun hHeld => ?_)
      clear hK K
      (try simp only [Act.put, List.setIfInBounds_toArray, List.set_cons_zero, List.set_cons_succ])
      obtain ⟨V7, hV7⟩ : ∃ x, x = (WB.alloc (.cells #[.int .i64 0, .slice none 0 0] 27)).drew := ⟨_, rfl⟩
      have bV7 : Below WB.heap.size WB V7 := by rw [hV7]; first | exact bpush (Below.refl _ _) _ | exact below_drewN (bpush (Below.refl _ _) _) 1
      have ltV7 : WB.heap.size < V7.heap.size := by rw [hV7]; simp
      have lV7 : WB.heap.size ≤ V7.heap.size := by omega
      have hbx : Blk V7 WB.heap.size 27 #[.int .i64 0, .slice none 0 0] := by rw [hV7]; exact Blk.new WB 27 _
      rw [← hV7] at hHeld ⊢
      clear hV7 hk
      refine wpAnyH_ready (rs := [2]) (by kernel_rfl) (by simp) ?_
      refine AllReadyH.cons rfl (fun K hK => ?_) AllReadyH.nil
      go_simp
      have hk := bpush hHeld.2 (.cells #[] 3)
      refine hK.out _ _ (by first | exact ⟨HCEL.out _ hk, hk⟩ | (simp at hk ⊢; exact ⟨HCEL.out _ hk, hk⟩)) (fun hHeld => ?_)
      clear hK K
      (try simp only [Act.put, List.setIfInBounds_toArray, List.set_cons_zero, List.set_cons_succ])
      obtain ⟨V2, hV2⟩ : ∃ x, x = V7.alloc (.cells #[] 3) := ⟨_, rfl⟩
      have bV2 : Below V7.heap.size V7 V2 := by rw [hV2]; first | exact bpush (Below.refl _ _) _ | exact below_drewN (bpush (Below.refl _ _) _) 1
      have ltV2 : V7.heap.size < V2.heap.size := by rw [hV2]; simp
      have lV2 : WB.heap.size ≤ V2.heap.size := by omega
      have hoe : V2.ownsRow WB.heap.size 3 1 (.slice (some ⟨V7.heap.size, 0, none⟩) 0 0) 0 [] := by rw [hV2]; first | exact own_empty (by omega) | exact own_dr (own_empty (by omega)) 1
      have hrs : Row V2 SA (intsV S) := HRS.out.keep (Nat.le_refl _) (by first | exact bV2 | exact (bV7.trans (bV2.mono (by omega))))
      rw [← hV2] at hHeld ⊢
      clear hV2 hk
      have hbx := hbx.grown (grown_none bV2) (by simp)
      refine wpAnyH_ready (rs := [5]) (by kernel_rfl) (by simp) ?_
      refine AllReadyH.cons rfl (fun K hK => ?_) AllReadyH.nil
      refine step_append_ints rfl _ _ rfl WB.heap.size (.slice (some ⟨V7.heap.size, 0, none⟩) 0 0) 0 [] (by first | rfl | (simp; done)) SA sn sc S (by first | rfl | (simp; done)) hoe hrs HSN.out HSC.out HSA.out (by have := HSB.out; omega) (by omega) ?_
      intro v5 w5 ho5 hg5 hd5
      rw [Nat.zero_add, List.nil_append] at ho5
      obtain ⟨A5, c5, rfl⟩ := own_is ho5
      have hb5 : Below WB.heap.size WB w5 := hHeld.2.trans (grown_below hoe hg5 (by omega))
      have hz5 := hg5.size
      refine hK.out _ _ ⟨HCEL.out _ hb5, hb5⟩ (fun hHeld => ?_)
      clear hK K
      (try simp only [Act.put, List.setIfInBounds_toArray, List.set_cons_zero, List.set_cons_succ])
      refine take_want (i := 6) (v := ?v6k5) rfl (by kernel_rfl) (by kernel_rfl) (by kernel_rfl) (fun _ _ _ h => h) (by rfl) ?y6k5 (by assumption) ?r6k5
      case y6k5 => (intro w hSw; go_simp; all_goals with_reducible rfl)
      (try simp only [Act.put, List.setIfInBounds_toArray, List.set_cons_zero, List.set_cons_succ])
      have hbx := hbx.grown hg5 (by intro e; have e2 : V7.heap.size = WB.heap.size := Option.some.inj e; omega)
      have HBX := Lib.hid hbx
      have HO1 := Lib.hid ho5
      clear hbx ho5 hoe hrs
      have e0 := HBX.out.cell 0
      have e1 := HBX.out.cell 1
      simp at e0 e1
      have ef := HBX.out.frozen
      have hge : WB.heap.size ≤ WB.heap.size := by omega
      refine wpAnyH_ready (rs := [8]) (by kernel_rfl) (by simp) ?_
      refine AllReadyH.cons rfl (fun K hK => ?_) AllReadyH.nil
      go_simp
      have hBs := bset (bset hHeld.2 (b := WB.heap.size) (o := 0) hge (.int .i64 k)) (b := WB.heap.size) (o := 1) hge (.slice A5 sn c5)
      refine hK.out _ _ (by first | exact ⟨HCEL.out _ hBs, hBs⟩ | (simp at hBs ⊢; exact ⟨HCEL.out _ hBs, hBs⟩)) (fun hHeld2 => ?_)
      clear hK K
      (try simp only [Act.put, List.setIfInBounds_toArray, List.set_cons_zero, List.set_cons_succ])
      refine wpAnyH_done (by kernel_rfl) ?_ _
      go_wp2_with fail
      go_meet
      have hbx2 := (HBX.out.set_ 0 (.int .i64 k)).set_ 1 (.slice A5 sn c5)
      simp at hbx2
      have hnb := HO1.out.not_blk HBX.out (by decide)
      exact ⟨WB.heap.size, A5, c5, rfl, Lib.hid hbx2, Lib.hid (own_set' (own_set' HO1.out hnb) hnb), Lib.hid hHeld2.2⟩
  case rest =>
    obtain ⟨g, D1, k1, rfl, HBX, HO, HBW⟩ := hcut
    obtain ⟨W4, hW4⟩ : ∃ W, W = wc := ⟨_, rfl⟩
    subst hW4
    have HB4 := Lib.hid (HB3.out.trans (HBW.out.mono HB3.out.size))
    have HBA4 := Lib.hid (bthen HB0.out HB4.out)
    obtain ⟨⟨x0, x1⟩, ⟨y0, y1⟩, z0, z1, z2⟩ := HC0.out W4 HB4.out
    have hp20 : z.p ≤ 20 := by have := (HFT.out.ev z List.mem_cons_self).1.1; have := HZ.out.nd; omega
    have hx20 : z.x ≤ 20 := by have := (HFT.out.ev z List.mem_cons_self).2; have := HZ.out.nx; omega
    obtain ⟨v, hv⟩ := check_ex L M z.D z.X z.t
    have hT20 := chg_size (k := k) (S := S) (X := z.X) (m := m) (v := v) (by have := HSN.out; have := HSB.out; omega)
    obtain ⟨⟨⟨K, T⟩, v'⟩, hr⟩ : ∃ r, r = chg k S z.X m v := ⟨_, rfl⟩
    have HC1 := Lib.hid (fun W (hW : Below w.heap.size w W) => charge_any A E SA z.E z.F n c m d sn sc z.p z.q z.x z.y k z.t L M z.D z.X S W (HRS0.out.keep (Nat.le_refl _) hW) (HZ.out.rd.keep (Nat.le_refl _) hW) (HZ.out.rx.keep (Nat.le_refl _) hW) HNL.out HMM.out HSN.out HZ.out.nd HZ.out.nx HZ.out.sd HSC.out HSA.out (by omega) (by omega) (by have := HSB.out; omega) (by omega) v hv)
    have HC2 := Lib.hid (fun W (hW : Below w.heap.size w W) => refcharge_any A E SA z.E z.F n c m d sn sc z.p z.q z.x z.y k z.t L M z.D z.X S W (HRS0.out.keep (Nat.le_refl _) hW) (HZ.out.rd.keep (Nat.le_refl _) hW) (HZ.out.rx.keep (Nat.le_refl _) hW) HNL.out HMM.out HSN.out HZ.out.nd HZ.out.nx HZ.out.sd HSC.out HSA.out (by omega) (by omega) (by have := HSB.out; omega) (by omega) v hv)
    rw [← hr] at HC1 HC2 hT20
    have HTL := Lib.hid (show T.length ≤ 20 from hT20)
    clear hr hv hT20
    go_upto_region 6 with (go_at_call 11; refine (HC1.out _ HBA4.out).mono ?_; rintro e w5 ⟨A5, n5, c5, rfl, hn5, hc5, ha5, hr5, hb5⟩; have HN5 := Lib.hid hn5; clear hn5)
    obtain ⟨W6, hW6⟩ : ∃ W6, W6 = w5.alloc (.cells #[.int .i64 K, .slice A5 n5 c5] 27) := ⟨_, rfl⟩
    have hb56 : Below w5.heap.size w5 W6 := by rw [hW6]; exact bpush (Below.refl _ _) _
    have hb46 := bthen hb5 hb56
    have HR6 := Lib.hid (show Row W6 A5 (intsV T) from hr5.keep (Nat.le_refl _) hb56)
    have HE6 := Lib.hid (show W6.cell? ⟨w5.heap.size, 0, none⟩ = some (.int .i64 K) ∧ W6.cell? ⟨w5.heap.size, 1, none⟩ = some (.slice A5 n5 c5) by rw [hW6]; exact ⟨cell_made rfl rfl, cell_made rfl rfl⟩)
    obtain ⟨D1', k1', e', hrd, hcd, hnd⟩ := own_slice HO.out
    cases e'
    have HD := Lib.hid hrd
    have HB46 := Lib.hid hb46
    have HB6 := Lib.hid (HB4.out.trans (hb46.mono HB4.out.size))
    have HBA6 := Lib.hid (bthen HB0.out HB6.out)
    rw [← hW6]
    clear hW6 hb56 hb46 hb5 hr5 hc5 ha5 hrd hcd hnd x0 x1 y0 y1 z0 z1 z2
    obtain ⟨⟨x0, x1⟩, ⟨y0, y1⟩, z0, z1, z2⟩ := HC0.out W6 HB6.out
    go_upto_region 7 with (go_at_call 12; refine (HC2.out _ HBA6.out).mono ?_; rintro e w7 ⟨A7, n7, c7, rfl, hn7, hc7, ha7, hr7, hb7⟩; have HN7 := Lib.hid hn7; clear hn7)
    obtain ⟨W8, hW8⟩ : ∃ W8, W8 = w7.alloc (.cells #[.int .i64 K, .slice A7 n7 c7] 27) := ⟨_, rfl⟩
    have hb78 : Below w7.heap.size w7 W8 := by rw [hW8]; exact bpush (Below.refl _ _) _
    have hb68 := bthen hb7 hb78
    have HB8 := Lib.hid (HB6.out.trans (hb68.mono HB6.out.size))
    have HBA8 := Lib.hid (bthen HB0.out HB8.out)
    have hb48 := bthen HB46.out hb68
    have h0 : W8.cell? ⟨w7.heap.size, 0, none⟩ = some (.int .i64 K) := by rw [hW8]; exact cell_made rfl rfl
    have h1 : W8.cell? ⟨w7.heap.size, 1, none⟩ = some (.slice A7 n7 c7) := by rw [hW8]; exact cell_made rfl rfl
    have f0 := cell_on hb68 HE6.out.1
    have f1 := cell_on hb68 HE6.out.2
    have HBX8 := Lib.hid (HBX.out.grown (grown_none hb48) (by simp))
    have HD8 := Lib.hid (HD.out.keep (Nat.le_refl _) hb48)
    have HS1 := Lib.hid (same_any A5 A7 n5 c5 n7 c7 K K T T W8 (HR6.out.keep (Nat.le_refl _) hb68) (hr7.keep (Nat.le_refl _) hb78) HN5.out HN7.out (by have := HN5.out; have := HTL.out; omega) true (by simp))
    rw [← hW8]
    clear hW8 hb78 hb68 hb48 hr7 hc7 ha7 hb7 x0 x1 y0 y1 z0 z1 z2 HBX HD
    go_upto_region 8 with (go_at_call 13; refine HS1.out.mono ?_; rintro e w9 ⟨rfl, hb9⟩)
    have HB9 := Lib.hid (HB8.out.trans (hb9.mono HB8.out.size))
    have HBA9 := Lib.hid (bthen HB0.out HB9.out)
    have HBX9 := Lib.hid (HBX8.out.grown (grown_none hb9) (by simp))
    have HS2 := Lib.hid (same_any SA D1 sn sc sn k1 k k S S w9 (HRS0.out.keep (Nat.le_refl _) HBA9.out) (HD8.out.keep (Nat.le_refl _) hb9) HSN.out HSN.out (by have := HSB.out; omega) true (by simp))
    have g0 := HBX9.out.cell 0
    have g1 := HBX9.out.cell 1
    simp at g0 g1
    clear hb9 HS1 f0 f1 h0 h1
    obtain ⟨⟨x0, x1⟩, ⟨y0, y1⟩, z0, z1, z2⟩ := HC0.out w9 HB9.out
    go_upto_region 9 with (go_at_call 13; refine HS2.out.mono ?_; rintro e w10 ⟨rfl, hb10⟩)
    have HBA10 := Lib.hid (bthen HBA9.out hb10)
    have hvv : (v' == v') = true := by simp
    go_wp2_with (go_at_call 10; refine (alive_any _ (HT.out.keep HBA10.out)).mono ?_; rintro e w11 ⟨rfl, hb11⟩)
    go_ret
    exact ⟨rfl, bthen HBA10.out hb11⟩
end Go.Proofs.YtmmeekmiildliaaGreatDoor
