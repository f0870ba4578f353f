/- JournalBack: its walk (5). -/
import Derived.Test.YthogafecplhckaaDoorNM
namespace Go.Proofs.YthogafecplhckaaDoor
open Go.RowKit
set_option linter.unusedSimpArgs false
set_option linter.unusedVariables false
theorem takeJ_more {L M : List ByteArray} {z : EZ} (h : rightJ L M z) (rest : List Int) : SameJ (takeJ L.length M.length (encJ z ++ rest)).1 z ∧ (takeJ L.length M.length (encJ z ++ rest)).2 = some rest := by
  obtain ⟨bs, hbs⟩ : ∃ bs, bs = encJ z ++ rest := ⟨_, rfl⟩
  rw [← hbs]
  cases ht : z.tick with
  | true =>
    obtain ⟨h1, h2, h3, h4, h5⟩ := right_tick h ht
    have e0 : bs = encV 1 ++ (encV z.now ++ rest) := by rw [hbs, encJ, if_pos ht]; simp
    have k1 : takeI 0 1 (some bs) = (1, some (encV z.now ++ rest)) := by
      rw [e0]; unfold takeI; simp only []; rw [readI_enc (by omega) (by omega) (by omega) (by omega)]
    have k2 : takeI 0 1099511627776 (some (encV z.now ++ rest)) = (z.now, some rest) := by
      unfold takeI; simp only []; rw [readI_enc (by omega) (by omega) h4 h5]
    unfold takeJ
    rw [k1]
    simp only []
    rw [if_pos trivial, k2]
    exact ⟨⟨ht.symm, rfl, h1.symm, h2.symm, h3.symm⟩, rfl⟩
  | false =>
    obtain ⟨h1, h2⟩ := right_event h ht
    have h3 := h2.t0
    have h4 := h2.t1
    have e0 : bs = encV 0 ++ (encV z.ev.t ++ ((z.ev.D.map encT).flatten ++ ((z.ev.X.map encV).flatten ++ rest))) := by rw [hbs, encJ, if_neg (by rw [ht]; simp)]; simp
    have k1 : takeI 0 1 (some bs) = (0, some (encV z.ev.t ++ ((z.ev.D.map encT).flatten ++ ((z.ev.X.map encV).flatten ++ rest)))) := by
      rw [e0]; unfold takeI; simp only []; rw [readI_enc (by omega) (by omega) (by omega) (by omega)]
    have k2 : takeI 0 1099511627776 (some (encV z.ev.t ++ ((z.ev.D.map encT).flatten ++ ((z.ev.X.map encV).flatten ++ rest)))) = (z.ev.t, some ((z.ev.D.map encT).flatten ++ ((z.ev.X.map encV).flatten ++ rest))) := by
      unfold takeI; simp only []; rw [readI_enc (by omega) (by omega) h3 h4]
    have k3 := takeD_enc z.ev.D ((z.ev.X.map encV).flatten ++ rest) (fun s hs => (h2.dv s hs).1) z.ev.D.length (Nat.le_refl _)
    rw [List.take_length, List.drop_length] at k3
    have k4 := takeX_enc z.ev.X rest (fun v hv => by have h := h2.xv v hv; unfold greatZ at h; omega) z.ev.X.length (Nat.le_refl _)
    rw [List.take_length, List.drop_length] at k4
    rw [h2.dl] at k3
    rw [h2.xl] at k4
    unfold takeJ
    rw [k1]
    simp only []
    rw [if_neg (by omega), k2]
    simp only []
    rw [k3]
    simp only [List.map_nil, List.flatten_nil, List.nil_append]
    rw [k4]
    exact ⟨⟨ht.symm, h1.symm, rfl, rfl, rfl⟩, by simp⟩
theorem encJ_prefix {L M : List ByteArray} {a b : EZ} (h : rightJ L M a) (k : rightJ L M b) {q : Nat} (hq : q < (encJ a).length) : encJ b ≠ (encJ a).take q := by
  intro e
  have h1 := (takeJ_more k ((encJ a).drop q)).2
  rw [e, List.take_append_drop, (takeJ_enc h).2] at h1
  injection h1 with h1
  have := congrArg List.length h1
  rw [List.length_drop] at this
  simp at this
  omega
theorem and_mask10 (m : Int) : ∃ q : Int, 0 ≤ q ∧ q ≤ 1023 ∧ bits .and .i64 m 1023 = q := by
  have h : (BitVec.ofInt 64 m &&& BitVec.ofInt 64 1023).toNat ≤ 1023 := by rw [BitVec.toNat_and]; exact Nat.and_le_right
  refine ⟨(((BitVec.ofInt 64 m &&& BitVec.ofInt 64 1023).toNat : Nat) : Int), by omega, by omega, ?_⟩
  show IntKind.i64.wrap ((BitVec.ofInt 64 m &&& BitVec.ofInt 64 1023).toNat : Int) = _
  exact IntWalk.i64_in _ (by omega)
theorem slice_upto (W : World) (g n c k : Nat) (hk : k ≤ c) : Sem.run Tryd.prog (Instr.slice 25 (.slice (some ⟨g, 0, none⟩) n c) none (some (.int .i64 (k : Int))) none) W = .ok (.slice (some ⟨g, 0, none⟩) k c) W := by
  have e : Tryd.prog.elem 25 = 5 := by kernel_rfl
  have hs : ∀ W, Sem.run Tryd.prog (Go.sizeOf (Tryd.prog.elem 25)) W = .ok 1 W := fun _ => by kernel_rfl
  rw [run_slice_h W 25 (some ⟨g, 0, none⟩) n c (by rw [e]; exact Tryd.underlying25) .i64 k (by omega) (by omega), hs]
  simp only [Result.andThen, sliced, Int.toNat_natCast]
  have : (⟨g, 0, none⟩ : Addr).add 0 = ⟨g, 0, none⟩ := by unfold Addr.add; simp
  simp [this]
abbrev EZ.cells (z : EZ) : List Value := encEnt z
set_option maxRecDepth 100000 in
set_option maxHeartbeats 16000000 in
theorem back_walk (A B : Option Addr) (n c m d : Nat) (L M : List ByteArray) (z1 z2 : EZ) (cut : Int) (w : World) (hT : Tab w) (hA : Row w A (texts L)) (hB : Row w B (texts M)) (hn : n = L.length) (hm : m = M.length) (hnc : n ≤ c) (hmd : m ≤ d) (ha : A = none → c = 0) (hb : B = none → d = 0)
    (hL : ∀ s ∈ L, s.size ≤ 9223372036854775807) (hM : ∀ s ∈ M, s.size ≤ 9223372036854775807) (hn2 : n ≤ 9223372036854775807) (hm2 : m ≤ 9223372036854775807) (g1 : EvG w z1.ev) (g2 : EvG w z2.ev) (hz : SizedL [z1, z2]) :
    Calls Tryd.prog 5 #[.agg #[.slice A n c, .slice B m d], .agg #[.bool z1.tick, .int .i64 z1.now, .int .i64 z1.ev.t, .slice z1.ev.E z1.ev.p z1.ev.q, .slice z1.ev.F z1.ev.x z1.ev.y, .bool z2.tick, .int .i64 z2.now, .int .i64 z2.ev.t, .slice z2.ev.E z2.ev.p z2.ev.q, .slice z2.ev.F z2.ev.x z2.ev.y], .int .i64 cut] w fun e w' => e = .returned (.bool true) ∧ Below w.heap.size w w' := by
  obtain ⟨W1, hW1⟩ : ∃ W1, W1 = (w.alloc (.cells #[.slice A n c, .slice B m d] 24)).alloc (.cells #[.bool z1.tick, .int .i64 z1.now, .int .i64 z1.ev.t, .slice z1.ev.E z1.ev.p z1.ev.q, .slice z1.ev.F z1.ev.x z1.ev.y, .bool z2.tick, .int .i64 z2.now, .int .i64 z2.ev.t, .slice z2.ev.E z2.ev.p z2.ev.q, .slice z2.ev.F z2.ev.x z2.ev.y] 50) := ⟨_, rfl⟩
  have hb1 : Below w.heap.size w W1 := by rw [hW1]; exact bpush (bpush (Below.refl _ _) _) _
  have HCC := Lib.hid (fun W (h : Below W1.heap.size W1 W) => show (W.cell? ⟨w.heap.size, 0, none⟩ = some (.slice A n c) ∧ W.cell? ⟨w.heap.size, 1, none⟩ = some (.slice B m d)) ∧
      (W.cell? ⟨w.heap.size + 1, 0, none⟩ = some (.bool z1.tick) ∧ W.cell? ⟨w.heap.size + 1, 1, none⟩ = some (.int .i64 z1.now) ∧ W.cell? ⟨w.heap.size + 1, 2, none⟩ = some (.int .i64 z1.ev.t) ∧ W.cell? ⟨w.heap.size + 1, 3, none⟩ = some (.slice z1.ev.E z1.ev.p z1.ev.q) ∧ W.cell? ⟨w.heap.size + 1, 4, none⟩ = some (.slice z1.ev.F z1.ev.x z1.ev.y)) ∧
      (W.cell? ⟨w.heap.size + 1, 5, none⟩ = some (.bool z2.tick) ∧ W.cell? ⟨w.heap.size + 1, 6, none⟩ = some (.int .i64 z2.now) ∧ W.cell? ⟨w.heap.size + 1, 7, none⟩ = some (.int .i64 z2.ev.t) ∧ W.cell? ⟨w.heap.size + 1, 8, none⟩ = some (.slice z2.ev.E z2.ev.p z2.ev.q) ∧ W.cell? ⟨w.heap.size + 1, 9, none⟩ = some (.slice z2.ev.F z2.ev.x z2.ev.y)) from by
    rw [hW1] at h
    refine ⟨⟨?_, ?_⟩, ⟨?_, ?_, ?_, ?_, ?_⟩, ?_, ?_, ?_, ?_, ?_⟩ <;> refine cell_on h ?_
    · exact cell_on (bpush (Below.refl _ _) _) (cell_made rfl rfl)
    · exact cell_on (bpush (Below.refl _ _) _) (cell_made rfl rfl)
    all_goals exact cell_made (by simp) rfl)
  obtain ⟨rf, hrf⟩ := bool_of (FitsJ L M [z1, z2])
  have HEC := Lib.hid (show EntsC W1 (some ⟨w.heap.size + 1, 0, none⟩) [z1, z2] from ⟨by rw [hW1]; exact Row.made (by simp) rfl, fun z hz => by
    rcases List.mem_cons.1 hz with rfl | hz
    · exact g1.keep (Nat.le_refl _) hb1
    · rw [List.mem_singleton.1 hz]; exact g2.keep (Nat.le_refl _) hb1⟩)
  have HFIT := Lib.hid (fun W (h : Below W1.heap.size W1 W) => fitsj_any A B (some ⟨w.heap.size + 1, 0, none⟩) n c m d 2 2 L M [z1, z2] W ((hA.keep (Nat.le_refl _) hb1).keep (Nat.le_refl _) h) ((hB.keep (Nat.le_refl _) hb1).keep (Nat.le_refl _) h) (HEC.out.keep (Nat.le_refl _) h) hn hm rfl hnc hmd ha hb hL hM hn2 hm2 (by omega) hz rf hrf)
  have HG1 := Lib.hid (g1.keep (Nat.le_refl _) hb1)
  have HG2 := Lib.hid (g2.keep (Nat.le_refl _) hb1)
  have HT := Lib.hid (hT.keep hb1)
  have HN := Lib.hid hn
  have HM := Lib.hid hm
  have HRF := Lib.hid hrf
  have HSZ := Lib.hid hz
  have HW1 := Lib.hid hW1
  have HBW1 := Lib.hid hb1
  clear hT hA hB hn hm hnc hmd ha hb hL hM hn2 hm2 g1 g2 hz hW1 hb1 hrf
  go_enter Tryd.func5, Tryd.ntmps5
  go_upto_region 1 with fail
  rw [← HW1.out]
  clear HW1
  refine wp_region_held_drew (S := fun W => Below W1.heap.size W1 W) (by kernel_rfl) (below_drewN (Below.refl _ _) 1) ?_
  intro hHeld
  refine take_want (i := 0) (v := ?v0k1) rfl (by kernel_rfl) (by kernel_rfl) (by kernel_rfl) (fun _ _ _ h => h) (by rfl) ?y0k1 (by assumption) ?r0k1
  case y0k1 => (intro w hSw; obtain ⟨⟨q0, q1⟩, _⟩ := HCC.out w hSw; go_simp; all_goals with_reducible rfl)
  (try simp only [Act.put, List.setIfInBounds_toArray, List.set_cons_zero, List.set_cons_succ])
  refine take_want (i := 1) (v := ?v1k1) rfl (by kernel_rfl) (by kernel_rfl) (by kernel_rfl) (fun _ _ _ h => h) (by rfl) ?y1k1 (by assumption) ?r1k1
  case y1k1 => (intro w hSw; go_simp; all_goals with_reducible rfl)
  (try simp only [Act.put, List.setIfInBounds_toArray, List.set_cons_zero, List.set_cons_succ])
  refine wpAnyH_ready (rs := [2]) (by kernel_rfl) (by simp) ?_
  refine AllReadyH.cons rfl (fun K hK => ?_) AllReadyH.nil
  go_simp
  (go_at_call 7; refine (HFIT.out _ hHeld).mono ?_; rintro e w2 ⟨rfl, hb2⟩)
  have hb12 : Below W1.heap.size W1 w2 := bthen hHeld hb2
  refine hK.out _ _ (hb12) (fun hHeld => ?_)
  clear hK K
  (try simp only [Act.put, List.setIfInBounds_toArray, List.set_cons_zero, List.set_cons_succ])
  refine take_want (i := 3) (v := ?v3k1) rfl (by kernel_rfl) (by kernel_rfl) (by kernel_rfl) (fun _ _ _ h => h) (by rfl) ?y3k1 (by assumption) ?r3k1
  case y3k1 => (intro w hSw; go_simp; all_goals with_reducible rfl)
  (try simp only [Act.put, List.setIfInBounds_toArray, List.set_cons_zero, List.set_cons_succ])
  refine wpAnyH_done (by kernel_rfl) ?_ _
  have HB2 := Lib.hid hb12
  clear hHeld hb12
  cases rf with
  | false =>
    have HAL := Lib.hid (alive_any w2 (HT.out.keep HB2.out))
    go_wp2_with (go_at_call 8; refine HAL.out.mono ?_; rintro e w3 ⟨rfl, hb3⟩)
    go_ret
    exact ⟨rfl, bthen HBW1.out (bthen HB2.out hb3)⟩
  | true =>
    have hf := HRF.out.1 rfl
    have hn20 : n ≤ 20 ∧ m ≤ 20 := ⟨by rw [HN.out]; exact hf.l.1, by rw [HM.out]; exact hf.m.1⟩
    obtain ⟨hn20, hm20⟩ := hn20
    clear hf
    obtain ⟨⟨q0, q1⟩, ⟨c0, c1, c2, c3, c4⟩, _⟩ := HCC.out w2 HB2.out
    have hs1 := HSZ.out z1 (by simp)
    have hs2 := HSZ.out z2 (by simp)
    have HE1 := Lib.hid (encode_any A B n c m d L M z1 w2 (HG1.out.keep (Nat.le_refl _) HB2.out) HN.out HM.out (by omega) (by omega) hs1.1 hs1.2)
    go_wp2_with fail
    refine HE1.out.mono ?_
    clear q0 q1 c0 c1 c2 c3 c4
    rintro e w3 (⟨hnr1, rfl, hb3⟩ | ⟨hr1, gx, kx, rfl, hkx, hox, hb3⟩)
    · have HB3 := Lib.hid (bthen HB2.out hb3)
      obtain ⟨⟨q0, q1⟩, _, d0, d1, d2, d3, d4⟩ := HCC.out w3 HB3.out
      have HE2 := Lib.hid (encode_any A B n c m d L M z2 w3 (HG2.out.keep (Nat.le_refl _) HB3.out) HN.out HM.out (by omega) (by omega) hs2.1 hs2.2)
      have HAL := Lib.hid (fun W (h : Below W1.heap.size W1 W) => alive_any W (HT.out.keep h))
      clear hnr1 hb3 hs1 hs2
      go_wp2_with fail
      refine HE2.out.mono ?_
      rintro e w4 (⟨_, rfl, hb4⟩ | ⟨_, g9, k9, rfl, _, _, hb4⟩)
      · have HAL4 := Lib.hid (HAL.out w4 (bthen HB3.out hb4))
        have HB4' := Lib.hid (bthen HB3.out hb4)
        clear hb4
        go_wp2_with (go_at_call 8; refine HAL4.out.mono ?_; rintro e w5 ⟨rfl, hb5⟩)
        go_ret
        exact ⟨rfl, bthen HBW1.out (bthen HB4'.out hb5)⟩
      · have HAL4 := Lib.hid (HAL.out w4 (bthen HB3.out hb4))
        have HB4' := Lib.hid (bthen HB3.out hb4)
        clear hb4
        go_wp2_with (go_at_call 8; refine HAL4.out.mono ?_; rintro e w5 ⟨rfl, hb5⟩)
        go_ret
        exact ⟨rfl, bthen HBW1.out (bthen HB4'.out hb5)⟩
    · obtain ⟨X1, hX1⟩ : ∃ X1, X1 = encJ z1 := ⟨_, rfl⟩
      have hlen1 := encJ_len hr1 (by have := HN.out; omega) (by have := HM.out; omega)
      rw [← hX1] at hkx hox hlen1 ⊢
      obtain ⟨lx, hlx⟩ : ∃ lx, lx = X1.length := ⟨_, rfl⟩
      rw [← hlx] at hkx hox hlen1 ⊢
      have hlx1 : 1 ≤ lx ∧ lx ≤ 2000 := by have := HN.out; have := HM.out; omega
      have HB3 := Lib.hid (bthen HB2.out hb3)
      obtain ⟨⟨q0, q1⟩, _, d0, d1, d2, d3, d4⟩ := HCC.out w3 HB3.out
      have HE2 := Lib.hid (encode_any A B n c m d L M z2 w3 (HG2.out.keep (Nat.le_refl _) HB3.out) HN.out HM.out (by omega) (by omega) hs2.1 hs2.2)
      have HRX := Lib.hid (row_own hox)
      have HR1 := Lib.hid hr1
      have HX1 := Lib.hid hX1
      have HLX := Lib.hid hlx
      have HS1 := Lib.hid hs1
      have HS2 := Lib.hid hs2
      clear hb3 hr1 hX1 hlx hox hlen1 hs1 hs2
      go_wp2_with fail
      refine HE2.out.mono ?_
      rintro e w4 (⟨_, rfl, hb4⟩ | ⟨hr2, gy, ky, rfl, hky, hoy, hb4⟩)
      · have HAL4 := Lib.hid (alive_any w4 (HT.out.keep (bthen HB3.out hb4)))
        have HB4' := Lib.hid (bthen HB3.out hb4)
        clear hb4
        go_wp2_with (go_at_call 8; refine HAL4.out.mono ?_; rintro e w5 ⟨rfl, hb5⟩)
        go_ret
        exact ⟨rfl, bthen HBW1.out (bthen HB4'.out hb5)⟩
      · obtain ⟨X2, hX2⟩ : ∃ X2, X2 = encJ z2 := ⟨_, rfl⟩
        rw [← hX2] at hky hoy ⊢
        obtain ⟨ly, hly⟩ : ∃ ly, ly = X2.length := ⟨_, rfl⟩
        rw [← hly] at hky hoy ⊢
        have HB4 := Lib.hid (bthen HB3.out hb4)
        have HRX4 := Lib.hid (HRX.out.keep (Nat.le_refl _) hb4)
        have HRY4 := Lib.hid (row_own hoy)
        have HR2 := Lib.hid hr2
        have HX2 := Lib.hid hX2
        have HLY := Lib.hid hly
        have HXB := Lib.hid (show bytes X1 by rw [HX1.out]; exact encJ_bytes z1)
        have HYB := Lib.hid (show bytes X2 by rw [hX2]; exact encJ_bytes z2)
        have HDC := Lib.hid (decode_any A B (some ⟨gx, 0, none⟩) n c m d lx kx L M X1 w4 HRX4.out HLX.out (by omega) HXB.out (fun e => by cases e) HN.out HM.out (by omega) (by omega))
        have hlz : ((lx : Int) == 0) = false := by rw [beq_eq_false_iff_ne]; omega
        clear hb4 hr2 hX2 hly hoy q0 q1 d0 d1 d2 d3 d4
        obtain ⟨⟨q0, q1⟩, _⟩ := HCC.out w4 HB4.out
        go_wp2_with fail
        refine HDC.out.mono ?_
        rintro e w5 (⟨zp, hp1, hp2, hp3, rfl, hb5⟩ | ⟨hno, _, _⟩)
        case inr => exact absurd HX1.out.symm (hno z1 HR1.out)
        have HSP := Lib.hid (encJ_inj hp1 HR1.out (by rw [hp2, HX1.out]))
        have HB5 := Lib.hid (bthen HB4.out hb5)
        have HRX5 := Lib.hid (HRX4.out.keep (Nat.le_refl _) hb5)
        have HRY5 := Lib.hid (HRY4.out.keep (Nat.le_refl _) hb5)
        have HEP := Lib.hid hp3
        clear hp1 hp2 hp3 hb5 q0 q1 hlz
        obtain ⟨w6, hw6⟩ : ∃ w6, w6 = w5.alloc (.cells #[.bool zp.tick, .int .i64 zp.now, .int .i64 zp.ev.t, .slice zp.ev.E zp.ev.p zp.ev.q, .slice zp.ev.F zp.ev.x zp.ev.y] 46) := ⟨_, rfl⟩
        have hb6 : Below w5.heap.size w5 w6 := by rw [hw6]; exact bpush (Below.refl _ _) _
        have HPC := Lib.hid (fun W (h : Below w6.heap.size w6 W) => show W.cell? ⟨w5.heap.size, 0, none⟩ = some (.bool zp.tick) ∧ W.cell? ⟨w5.heap.size, 1, none⟩ = some (.int .i64 zp.now) ∧ W.cell? ⟨w5.heap.size, 2, none⟩ = some (.int .i64 zp.ev.t) ∧ W.cell? ⟨w5.heap.size, 3, none⟩ = some (.slice zp.ev.E zp.ev.p zp.ev.q) ∧ W.cell? ⟨w5.heap.size, 4, none⟩ = some (.slice zp.ev.F zp.ev.x zp.ev.y) from by
          rw [hw6] at h
          exact ⟨cell_on h (cell_made rfl rfl), cell_on h (cell_made rfl rfl), cell_on h (cell_made rfl rfl), cell_on h (cell_made rfl rfl), cell_on h (cell_made rfl rfl)⟩)
        have HB6 := Lib.hid (bthen HB5.out hb6)
        have HEP6 := Lib.hid (HEP.out.keep hb6)
        have HRX6 := Lib.hid (HRX5.out.keep (Nat.le_refl _) hb6)
        have HRY6 := Lib.hid (HRY5.out.keep (Nat.le_refl _) hb6)
        obtain ⟨q, hq0, hq1, hqb⟩ := and_mask10 cut
        obtain ⟨j, hj⟩ : ∃ j : Nat, (j : Int) = q.tmod (lx : Int) := ⟨(q.tmod lx).toNat, by
          have := Int.tmod_nonneg (lx : Int) hq0
          omega⟩
        have hjl : j < lx := by
          have := Int.tmod_lt_of_pos q (show (0 : Int) < (lx : Int) by omega)
          omega
        have HDQ := Lib.hid (fun W (h : Below w6.heap.size w6 W) => decode_any A B (some ⟨gx, 0, none⟩) n c m d j kx L M (X1.take j) W (by
          have := (HRX6.out.keep (Nat.le_refl _) h).part j
          exact this.1) (by rw [List.length_take, ← HLX.out]; omega) (by omega) (fun y hy => HXB.out y (List.mem_of_mem_take hy)) (fun e => by cases e) HN.out HM.out (by omega) (by omega))
        have HNQ := Lib.hid (show ∀ z, rightJ L M z → encJ z ≠ X1.take j from fun z hz => by
          rw [HX1.out]
          exact encJ_prefix HR1.out hz (by rw [← HX1.out, ← HLX.out]; exact hjl))
        have HQ := Lib.hid hq0
        have HQ1 := Lib.hid hq1
        have HJ := Lib.hid hj
        have hjq : q.tmod (lx : Int) = (j : Int) := hj.symm
        have HW6 := Lib.hid hw6
        clear hb6 hw6 hj
        go_upto_region 11 with fail
        rw [← HW6.out]
        have hlx0 : ¬ lx = 0 := by omega
        have hsl : ∀ W, Sem.run Tryd.prog (Instr.slice 25 (.slice (some ⟨gx, 0, none⟩) lx kx) none (some (.int .i64 (j : Int))) none) W = .ok (.slice (some ⟨gx, 0, none⟩) j kx) W := fun W => slice_upto W gx lx kx j (by omega)
        refine wp_region_held_drew (S := fun W => Below w6.heap.size w6 W) (by kernel_rfl) (below_drewN (Below.refl _ _) 1) ?_
        intro hHeld
        refine take_want (i := 0) (v := ?v0k2) rfl (by kernel_rfl) (by kernel_rfl) (by kernel_rfl) (fun _ _ _ h => h) (by rfl) ?y0k2 (by assumption) ?r0k2
        case y0k2 => (intro w hSw; obtain ⟨⟨q0, q1⟩, _⟩ := HCC.out w (HB6.out.trans (hSw.mono HB6.out.size)); go_simp; all_goals with_reducible rfl)
        (try simp only [Act.put, List.setIfInBounds_toArray, List.set_cons_zero, List.set_cons_succ])
        refine take_want (i := 1) (v := ?v1k2) rfl (by kernel_rfl) (by kernel_rfl) (by kernel_rfl) (fun _ _ _ h => h) (by rfl) ?y1k2 (by assumption) ?r1k2
        case y1k2 => (intro w hSw; go_simp; all_goals with_reducible rfl)
        (try simp only [Act.put, List.setIfInBounds_toArray, List.set_cons_zero, List.set_cons_succ])
        refine take_want (i := 2) (v := ?v2k2) rfl (by kernel_rfl) (by kernel_rfl) (by kernel_rfl) (fun _ _ _ h => h) (by rfl) ?y2k2 (by assumption) ?r2k2
        case y2k2 => (intro w hSw; go_simp; all_goals with_reducible rfl)
        (try simp only [Act.put, List.setIfInBounds_toArray, List.set_cons_zero, List.set_cons_succ])
        refine take_want (i := 3) (v := ?v3k2) rfl (by kernel_rfl) (by kernel_rfl) (by kernel_rfl) (fun _ _ _ h => h) (by rfl) ?y3k2 (by assumption) ?r3k2
        case y3k2 => (intro w hSw; go_simp; all_goals with_reducible rfl)
        (try simp only [Act.put, List.setIfInBounds_toArray, List.set_cons_zero, List.set_cons_succ])
        refine take_want (i := 4) (v := ?v4k2) rfl (by kernel_rfl) (by kernel_rfl) (by kernel_rfl) (fun _ _ _ h => h) (by rfl) ?y4k2 (by assumption) ?r4k2
        case y4k2 => (intro w hSw; go_simp; all_goals with_reducible rfl)
        (try simp only [Act.put, List.setIfInBounds_toArray, List.set_cons_zero, List.set_cons_succ])
        refine take_want (i := 5) (v := ?v5k2) rfl (by kernel_rfl) (by kernel_rfl) (by kernel_rfl) (fun _ _ _ h => h) (by rfl) ?y5k2 (by assumption) ?r5k2
        case y5k2 => (intro w hSw; go_simp; all_goals with_reducible rfl)
        (try simp only [Act.put, List.setIfInBounds_toArray, List.set_cons_zero, List.set_cons_succ])
        refine take_want (i := 6) (v := ?v6k2) rfl (by kernel_rfl) (by kernel_rfl) (by kernel_rfl) (fun _ _ _ h => h) (by rfl) ?y6k2 (by assumption) ?r6k2
        case y6k2 => (intro w hSw; go_simp; all_goals with_reducible rfl)
        (try simp only [Act.put, List.setIfInBounds_toArray, List.set_cons_zero, List.set_cons_succ])
        refine take_want (i := 7) (v := ?v7k2) rfl (by kernel_rfl) (by kernel_rfl) (by kernel_rfl) (fun _ _ _ h => h) (by rfl) ?y7k2 (by assumption) ?r7k2
        case y7k2 => (intro w hSw; go_simp; all_goals with_reducible rfl)
        (try simp only [Act.put, List.setIfInBounds_toArray, List.set_cons_zero, List.set_cons_succ])
        refine wpAnyH_ready (rs := [8, 12]) (by kernel_rfl) (by simp) ?_
        refine AllReadyH.cons rfl (fun K hK => ?_) (AllReadyH.cons rfl (fun K hK => ?_) AllReadyH.nil)
        · go_simp
          (go_at_call 20; refine (HDQ.out _ hHeld).mono ?_; rintro e w7 (⟨zq, hq1, hq2, _, _, _⟩ | ⟨_, rfl, hb7⟩))
          case inl => exact absurd hq2 (HNQ.out zq hq1)
          have hb67 : Below w6.heap.size w6 w7 := bthen hHeld hb7
          have HB67 := Lib.hid hb67
          refine hK.out _ _ (hb67) (fun hHeld => ?_)
          clear hK K
          (try simp only [Act.put, List.setIfInBounds_toArray, List.set_cons_zero, List.set_cons_succ])
          refine take_want (i := 9) (v := ?v9k3) rfl (by kernel_rfl) (by kernel_rfl) (by kernel_rfl) (fun _ _ _ h => h) (by rfl) ?y9k3 (by assumption) ?r9k3
          case y9k3 => (intro w hSw; go_simp; all_goals with_reducible rfl)
          (try simp only [Act.put, List.setIfInBounds_toArray, List.set_cons_zero, List.set_cons_succ])
          refine take_want (i := 10) (v := ?v10k3) rfl (by kernel_rfl) (by kernel_rfl) (by kernel_rfl) (fun _ _ _ h => h) (by rfl) ?y10k3 (by assumption) ?r10k3
          case y10k3 => (intro w hSw; go_simp; all_goals with_reducible rfl)
          (try simp only [Act.put, List.setIfInBounds_toArray, List.set_cons_zero, List.set_cons_succ])
          refine take_want (i := 11) (v := ?v11k3) rfl (by kernel_rfl) (by kernel_rfl) (by kernel_rfl) (fun _ _ _ h => h) (by rfl) ?y11k3 (by assumption) ?r11k3
          case y11k3 => (intro w hSw; go_simp; all_goals with_reducible rfl)
          (try simp only [Act.put, List.setIfInBounds_toArray, List.set_cons_zero, List.set_cons_succ])
          refine wpAnyH_ready (rs := [12]) (by kernel_rfl) (by simp) ?_
          refine AllReadyH.cons rfl (fun K hK => ?_) AllReadyH.nil
          go_simp
          refine hK.out _ _ (bpush HB67.out _) (fun hHeld => ?_)
          clear hK K
          (try simp only [Act.put, List.setIfInBounds_toArray, List.set_cons_zero, List.set_cons_succ])
          refine wpAnyH_ready (rs := [13]) (by kernel_rfl) (by simp) ?_
          refine AllReadyH.cons rfl (fun K hK => ?_) AllReadyH.nil
          go_simp
          obtain ⟨w8, hw8⟩ : ∃ w8, w8 = w7.alloc (.cells #[.bool false, .int .i64 0, .int .i64 0, .slice none 0 0, .slice none 0 0] 46) := ⟨_, rfl⟩
          rw [← hw8]
          have hb8 : Below w6.heap.size w6 w8 := by rw [hw8]; exact bpush HB67.out _
          refine hK.out _ _ (hb8) (fun hHeld => ?_)
          clear hK K
          (try simp only [Act.put, List.setIfInBounds_toArray, List.set_cons_zero, List.set_cons_succ])
          refine take_want (i := 14) (v := ?v14k3) rfl (by kernel_rfl) (by kernel_rfl) (by kernel_rfl) (fun _ _ _ h => h) (by rfl) ?y14k3 (by assumption) ?r14k3
          case y14k3 => (intro w hSw; go_simp; all_goals with_reducible rfl)
          (try simp only [Act.put, List.setIfInBounds_toArray, List.set_cons_zero, List.set_cons_succ])
          refine wpAnyH_done (by kernel_rfl) ?_ _
          have HB8 := Lib.hid (bthen HB6.out hb8)
          have HB68 := Lib.hid hb8
          clear hb8 hw8 hHeld
          go_upto_region 12 with fail
          obtain ⟨s1, hs1⟩ : ∃ s1, s1 = strOfNums X1 := ⟨_, rfl⟩
          obtain ⟨s2, hs2⟩ : ∃ s2, s2 = strOfNums X2 := ⟨_, rfl⟩
          obtain ⟨ro, hro⟩ := bool_of (SameJ z1 z2)
          have HCV := Lib.hid (fun W (h : Below w8.heap.size w8 W) => And.intro (show Sem.run Tryd.prog (convert 25 9 (.slice (some ⟨gx, 0, none⟩) lx kx)) W = .ok (.string s1) W by rw [hs1]; exact conv_any ((HRX6.out.keep (Nat.le_refl _) HB68.out).keep (Nat.le_refl _) h) HLX.out) (show Sem.run Tryd.prog (convert 25 9 (.slice (some ⟨gy, 0, none⟩) ly ky)) W = .ok (.string s2) W by rw [hs2]; exact conv_any ((HRY6.out.keep (Nat.le_refl _) HB68.out).keep (Nat.le_refl _) h) HLY.out))
          have HOP := Lib.hid (fun W (h : Below w8.heap.size w8 W) => one_any zp z1 W (EvO.evg ((HEP6.out.keep HB68.out).keep h)) (HG1.out.keep (Nat.le_refl _) (HB8.out.trans (h.mono HB8.out.size))) (by have h1 := (EvO.evg HEP6.out).nd; have h2 := HSP.out.D; have h3 := HG1.out.nd; have h4 := HS1.out.1; rw [h1, h2, ← h3]; exact h4) HS1.out.1 (by have h1 := (EvO.evg HEP6.out).nx; have h2 := HSP.out.X; have h3 := HG1.out.nx; have h4 := HS1.out.2; rw [h1, h2, ← h3]; exact h4) HS1.out.2 true (by simp only [true_iff]; exact HSP.out))
          have HOO := Lib.hid (fun W (h : Below w8.heap.size w8 W) => one_any z1 z2 W (HG1.out.keep (Nat.le_refl _) (HB8.out.trans (h.mono HB8.out.size))) (HG2.out.keep (Nat.le_refl _) (HB8.out.trans (h.mono HB8.out.size))) HS1.out.1 HS2.out.1 HS1.out.2 HS2.out.2 ro hro)
          have HEQ := Lib.hid (show (s1.toList == s2.toList) = ro from by
            rw [ByteArray.toList_eq, ByteArray.toList_eq, Bool.eq_iff_iff, beq_iff_eq, hro]
            constructor
            · intro h
              have h1 : X1 = X2 := strOf_inj HXB.out HYB.out (by rw [← hs1, ← hs2]; exact ByteArray.ext (Array.toList_inj.1 h))
              exact encJ_inj HR1.out HR2.out (by rw [← HX1.out, ← HX2.out, h1])
            · intro h
              rw [hs1, hs2, HX1.out, HX2.out, h.enc])
          clear hs1 hs2 hro
          refine wp_region_held_drew (S := fun W => Below w8.heap.size w8 W) (by kernel_rfl) (below_drewN (Below.refl _ _) 1) ?_
          intro hHeld
          refine wpAnyH_ready (rs := [0]) (by kernel_rfl) (by simp) ?_
          refine AllReadyH.cons rfl (fun K hK => ?_) AllReadyH.nil
          go_simp
          (go_at_call 8; refine (alive_any _ (HT.out.keep (HB8.out.trans (hHeld.mono HB8.out.size)))).mono ?_; rintro e w9 ⟨rfl, hb9⟩)
          have hb89 : Below w8.heap.size w8 w9 := bthen hHeld hb9
          refine hK.out _ _ (hb89) (fun hHeld => ?_)
          clear hK K
          (try simp only [Act.put, List.setIfInBounds_toArray, List.set_cons_zero, List.set_cons_succ])
          refine take_want (i := 1) (v := ?v1k5) rfl (by kernel_rfl) (by kernel_rfl) (by kernel_rfl) (fun _ _ _ h => h) (by rfl) ?y1k5 (by assumption) ?r1k5
          case y1k5 => (intro w hSw; go_simp; all_goals with_reducible rfl)
          (try simp only [Act.put, List.setIfInBounds_toArray, List.set_cons_zero, List.set_cons_succ])
          refine take_want (i := 2) (v := ?v2k5) rfl (by kernel_rfl) (by kernel_rfl) (by kernel_rfl) (fun _ _ _ h => h) (by rfl) ?y2k5 (by assumption) ?r2k5
          case y2k5 => (intro w hSw; go_simp; all_goals with_reducible rfl)
          (try simp only [Act.put, List.setIfInBounds_toArray, List.set_cons_zero, List.set_cons_succ])
          refine take_want (i := 3) (v := ?v3k5) rfl (by kernel_rfl) (by kernel_rfl) (by kernel_rfl) (fun _ _ _ h => h) (by rfl) ?y3k5 (by assumption) ?r3k5
          case y3k5 => (intro w hSw; go_simp; all_goals with_reducible rfl)
          (try simp only [Act.put, List.setIfInBounds_toArray, List.set_cons_zero, List.set_cons_succ])
          refine take_want (i := 4) (v := ?v4k5) rfl (by kernel_rfl) (by kernel_rfl) (by kernel_rfl) (fun _ _ _ h => h) (by rfl) ?y4k5 (by assumption) ?r4k5
          case y4k5 => (intro w hSw; go_simp; all_goals with_reducible rfl)
          (try simp only [Act.put, List.setIfInBounds_toArray, List.set_cons_zero, List.set_cons_succ])
          refine take_want (i := 5) (v := ?v5k5) rfl (by kernel_rfl) (by kernel_rfl) (by kernel_rfl) (fun _ _ _ h => h) (by rfl) ?y5k5 (by assumption) ?r5k5
          case y5k5 => (intro w hSw; go_simp; all_goals with_reducible rfl)
          (try simp only [Act.put, List.setIfInBounds_toArray, List.set_cons_zero, List.set_cons_succ])
          refine take_want (i := 6) (v := ?v6k5) rfl (by kernel_rfl) (by kernel_rfl) (by kernel_rfl) (fun _ _ _ h => h) (by rfl) ?y6k5 (by assumption) ?r6k5
          case y6k5 => (intro w hSw; obtain ⟨q0, q1, q2, q3, q4⟩ := HPC.out w (HB68.out.trans (hSw.mono HB68.out.size)); go_simp; all_goals with_reducible rfl)
          (try simp only [Act.put, List.setIfInBounds_toArray, List.set_cons_zero, List.set_cons_succ])
          refine take_want (i := 7) (v := ?v7k5) rfl (by kernel_rfl) (by kernel_rfl) (by kernel_rfl) (fun _ _ _ h => h) (by rfl) ?y7k5 (by assumption) ?r7k5
          case y7k5 => (intro w hSw; go_simp; all_goals with_reducible rfl)
          (try simp only [Act.put, List.setIfInBounds_toArray, List.set_cons_zero, List.set_cons_succ])
          refine take_want (i := 8) (v := ?v8k5) rfl (by kernel_rfl) (by kernel_rfl) (by kernel_rfl) (fun _ _ _ h => h) (by rfl) ?y8k5 (by assumption) ?r8k5
          case y8k5 => (intro w hSw; obtain ⟨_, ⟨q0, q1, q2, q3, q4⟩, _⟩ := HCC.out w (HB8.out.trans (hSw.mono HB8.out.size)); go_simp; all_goals with_reducible rfl)
          (try simp only [Act.put, List.setIfInBounds_toArray, List.set_cons_zero, List.set_cons_succ])
          refine wpAnyH_ready (rs := [9]) (by kernel_rfl) (by simp) ?_
          refine AllReadyH.cons rfl (fun K hK => ?_) AllReadyH.nil
          go_simp
          (go_at_call 21; refine (HOP.out _ hHeld).mono ?_; rintro e w10 ⟨rfl, hb10⟩)
          have hb810 : Below w8.heap.size w8 w10 := bthen hHeld hb10
          refine hK.out _ _ (hb810) (fun hHeld => ?_)
          clear hK K
          (try simp only [Act.put, List.setIfInBounds_toArray, List.set_cons_zero, List.set_cons_succ])
          refine take_want (i := 10) (v := ?v10k5) rfl (by kernel_rfl) (by kernel_rfl) (by kernel_rfl) (fun _ _ _ h => h) (by rfl) ?y10k5 (by assumption) ?r10k5
          case y10k5 => (intro w hSw; go_simp; all_goals with_reducible rfl)
          (try simp only [Act.put, List.setIfInBounds_toArray, List.set_cons_zero, List.set_cons_succ])
          refine take_want (i := 11) (v := ?v11k5) rfl (by kernel_rfl) (by kernel_rfl) (by kernel_rfl) (fun _ _ _ h => h) (by rfl) ?y11k5 (by assumption) ?r11k5
          case y11k5 => (intro w hSw; go_simp; all_goals with_reducible rfl)
          (try simp only [Act.put, List.setIfInBounds_toArray, List.set_cons_zero, List.set_cons_succ])
          refine take_want (i := 12) (v := ?v12k5) rfl (by kernel_rfl) (by kernel_rfl) (by kernel_rfl) (fun _ _ _ h => h) (by rfl) ?y12k5 (by assumption) ?r12k5
          case y12k5 => (intro w hSw; go_simp; all_goals with_reducible rfl)
          (try simp only [Act.put, List.setIfInBounds_toArray, List.set_cons_zero, List.set_cons_succ])
          refine take_want (i := 13) (v := ?v13k5) rfl (by kernel_rfl) (by kernel_rfl) (by kernel_rfl) (fun _ _ _ h => h) (by rfl) ?y13k5 (by assumption) ?r13k5
          case y13k5 => (intro w hSw; go_simp; all_goals with_reducible rfl)
          (try simp only [Act.put, List.setIfInBounds_toArray, List.set_cons_zero, List.set_cons_succ])
          refine take_want (i := 14) (v := ?v14k5) rfl (by kernel_rfl) (by kernel_rfl) (by kernel_rfl) (fun _ _ _ h => h) (by rfl) ?y14k5 (by assumption) ?r14k5
          case y14k5 => (intro w hSw; go_simp; all_goals with_reducible rfl)
          (try simp only [Act.put, List.setIfInBounds_toArray, List.set_cons_zero, List.set_cons_succ])
          refine take_want (i := 15) (v := ?v15k5) rfl (by kernel_rfl) (by kernel_rfl) (by kernel_rfl) (fun _ _ _ h => h) (by rfl) ?y15k5 (by assumption) ?r15k5
          case y15k5 => (intro w hSw; go_simp; all_goals with_reducible rfl)
          (try simp only [Act.put, List.setIfInBounds_toArray, List.set_cons_zero, List.set_cons_succ])
          refine take_want (i := 16) (v := ?v16k5) rfl (by kernel_rfl) (by kernel_rfl) (by kernel_rfl) (fun _ _ _ h => h) (by rfl) ?y16k5 (by assumption) ?r16k5
          case y16k5 => (intro w hSw; go_simp; all_goals with_reducible rfl)
          (try simp only [Act.put, List.setIfInBounds_toArray, List.set_cons_zero, List.set_cons_succ])
          refine take_want (i := 17) (v := ?v17k5) rfl (by kernel_rfl) (by kernel_rfl) (by kernel_rfl) (fun _ _ _ h => h) (by rfl) ?y17k5 (by assumption) ?r17k5
          case y17k5 => (intro w hSw; obtain ⟨q0, q1⟩ := HCV.out w hSw; go_simp; all_goals with_reducible rfl)
          (try simp only [Act.put, List.setIfInBounds_toArray, List.set_cons_zero, List.set_cons_succ])
          refine take_want (i := 18) (v := ?v18k5) rfl (by kernel_rfl) (by kernel_rfl) (by kernel_rfl) (fun _ _ _ h => h) (by rfl) ?y18k5 (by assumption) ?r18k5
          case y18k5 => (intro w hSw; go_simp; all_goals with_reducible rfl)
          (try simp only [Act.put, List.setIfInBounds_toArray, List.set_cons_zero, List.set_cons_succ])
          refine take_want (i := 19) (v := ?v19k5) rfl (by kernel_rfl) (by kernel_rfl) (by kernel_rfl) (fun _ _ _ h => h) (by rfl) ?y19k5 (by assumption) ?r19k5
          case y19k5 => (intro w hSw; obtain ⟨q0, q1⟩ := HCV.out w hSw; go_simp; all_goals with_reducible rfl)
          (try simp only [Act.put, List.setIfInBounds_toArray, List.set_cons_zero, List.set_cons_succ])
          refine take_want (i := 20) (v := ?v20k5) rfl (by kernel_rfl) (by kernel_rfl) (by kernel_rfl) (fun _ _ _ h => h) (by rfl) ?y20k5 (by assumption) ?r20k5
          case y20k5 => (intro w hSw; go_simp; all_goals with_reducible rfl)
          (try simp only [Act.put, List.setIfInBounds_toArray, List.set_cons_zero, List.set_cons_succ])
          refine take_want (i := 21) (v := ?v21k5) rfl (by kernel_rfl) (by kernel_rfl) (by kernel_rfl) (fun _ _ _ h => h) (by rfl) ?y21k5 (by assumption) ?r21k5
          case y21k5 => (intro w hSw; go_simp; all_goals with_reducible rfl)
          (try simp only [Act.put, List.setIfInBounds_toArray, List.set_cons_zero, List.set_cons_succ])
          refine take_want (i := 22) (v := ?v22k5) rfl (by kernel_rfl) (by kernel_rfl) (by kernel_rfl) (fun _ _ _ h => h) (by rfl) ?y22k5 (by assumption) ?r22k5
          case y22k5 => (intro w hSw; obtain ⟨_, ⟨q0, q1, q2, q3, q4⟩, _⟩ := HCC.out w (HB8.out.trans (hSw.mono HB8.out.size)); go_simp; all_goals with_reducible rfl)
          (try simp only [Act.put, List.setIfInBounds_toArray, List.set_cons_zero, List.set_cons_succ])
          refine take_want (i := 23) (v := ?v23k5) rfl (by kernel_rfl) (by kernel_rfl) (by kernel_rfl) (fun _ _ _ h => h) (by rfl) ?y23k5 (by assumption) ?r23k5
          case y23k5 => (intro w hSw; go_simp; all_goals with_reducible rfl)
          (try simp only [Act.put, List.setIfInBounds_toArray, List.set_cons_zero, List.set_cons_succ])
          refine take_want (i := 24) (v := ?v24k5) rfl (by kernel_rfl) (by kernel_rfl) (by kernel_rfl) (fun _ _ _ h => h) (by rfl) ?y24k5 (by assumption) ?r24k5
          case y24k5 => (intro w hSw; obtain ⟨_, _, q0, q1, q2, q3, q4⟩ := HCC.out w (HB8.out.trans (hSw.mono HB8.out.size)); go_simp; all_goals with_reducible rfl)
          (try simp only [Act.put, List.setIfInBounds_toArray, List.set_cons_zero, List.set_cons_succ])
          refine wpAnyH_ready (rs := [25]) (by kernel_rfl) (by simp) ?_
          refine AllReadyH.cons rfl (fun K hK => ?_) AllReadyH.nil
          go_simp
          (go_at_call 21; refine (HOO.out _ hHeld).mono ?_; rintro e w11 ⟨rfl, hb11⟩)
          have hb811 : Below w8.heap.size w8 w11 := bthen hHeld hb11
          refine hK.out _ _ (hb811) (fun hHeld => ?_)
          clear hK K
          (try simp only [Act.put, List.setIfInBounds_toArray, List.set_cons_zero, List.set_cons_succ])
          refine take_want (i := 26) (v := ?v26k5) rfl (by kernel_rfl) (by kernel_rfl) (by kernel_rfl) (fun _ _ _ h => h) (by rfl) ?y26k5 (by assumption) ?r26k5
          case y26k5 => (intro w hSw; go_simp; all_goals with_reducible rfl)
          (try simp only [Act.put, List.setIfInBounds_toArray, List.set_cons_zero, List.set_cons_succ])
          refine take_want (i := 27) (v := ?v27k5) rfl (by kernel_rfl) (by kernel_rfl) (by kernel_rfl) (fun _ _ _ h => h) (by rfl) ?y27k5 (by assumption) ?r27k5
          case y27k5 => (intro w hSw; go_simp; all_goals with_reducible rfl)
          (try simp only [Act.put, List.setIfInBounds_toArray, List.set_cons_zero, List.set_cons_succ])
          refine take_want (i := 28) (v := ?v28k5) rfl (by kernel_rfl) (by kernel_rfl) (by kernel_rfl) (fun _ _ _ h => h) (by rfl) ?y28k5 (by assumption) ?r28k5
          case y28k5 => (intro w hSw; go_simp; all_goals with_reducible rfl)
          (try simp only [Act.put, List.setIfInBounds_toArray, List.set_cons_zero, List.set_cons_succ])
          refine wpAnyH_done (by kernel_rfl) ?_ _
          go_wp2_with fail
          go_ret
          exact ⟨ret_bool (a := ((s1.toList == s2.toList) == ro)) (by rw [HEQ.out]; simp), bthen HBW1.out (HB8.out.trans (hb811.mono HB8.out.size))⟩
        · go_simp
          have hka : Blk (w6.drew.alloc (.cells #[.bool false, .int .i64 0, .int .i64 0, .slice none 0 0, .slice none 0 0] 46)) w6.heap.size 46 #[.bool false, .int .i64 0, .int .i64 0, .slice none 0 0, .slice none 0 0] := Blk.new _ _ _
          have HKA := Lib.hid hka
          clear hka
          refine hK.out _ _ (bpush hHeld _) (fun hHeld => ?_)
          clear hK K
          (try simp only [Act.put, List.setIfInBounds_toArray, List.set_cons_zero, List.set_cons_succ])
          refine wpAnyH_ready (rs := [8]) (by kernel_rfl) (by simp) ?_
          refine AllReadyH.cons rfl (fun K hK => ?_) AllReadyH.nil
          go_simp
          (go_at_call 20; refine (HDQ.out _ hHeld).mono ?_; rintro e w7 (⟨zq, hq1, hq2, _, _, _⟩ | ⟨_, rfl, hb7⟩))
          case inl => exact absurd hq2 (HNQ.out zq hq1)
          have hb67 : Below w6.heap.size w6 w7 := bthen hHeld hb7
          have HB67 := Lib.hid hb67
          have HKA7 := Lib.hid (HKA.out.below hb7 HKA.out.lt)
          refine hK.out _ _ (hb67) (fun hHeld => ?_)
          clear hK K
          (try simp only [Act.put, List.setIfInBounds_toArray, List.set_cons_zero, List.set_cons_succ])
          refine take_want (i := 9) (v := ?v9k4) rfl (by kernel_rfl) (by kernel_rfl) (by kernel_rfl) (fun _ _ _ h => h) (by rfl) ?y9k4 (by assumption) ?r9k4
          case y9k4 => (intro w hSw; go_simp; all_goals with_reducible rfl)
          (try simp only [Act.put, List.setIfInBounds_toArray, List.set_cons_zero, List.set_cons_succ])
          refine take_want (i := 10) (v := ?v10k4) rfl (by kernel_rfl) (by kernel_rfl) (by kernel_rfl) (fun _ _ _ h => h) (by rfl) ?y10k4 (by assumption) ?r10k4
          case y10k4 => (intro w hSw; go_simp; all_goals with_reducible rfl)
          (try simp only [Act.put, List.setIfInBounds_toArray, List.set_cons_zero, List.set_cons_succ])
          refine take_want (i := 11) (v := ?v11k4) rfl (by kernel_rfl) (by kernel_rfl) (by kernel_rfl) (fun _ _ _ h => h) (by rfl) ?y11k4 (by assumption) ?r11k4
          case y11k4 => (intro w hSw; go_simp; all_goals with_reducible rfl)
          (try simp only [Act.put, List.setIfInBounds_toArray, List.set_cons_zero, List.set_cons_succ])
          refine wpAnyH_ready (rs := [13]) (by kernel_rfl) (by simp) ?_
          refine AllReadyH.cons rfl (fun K hK => ?_) AllReadyH.nil
          have hk7 := HKA7.out
          have y0 : w7.cell? ⟨w6.heap.size, 0, none⟩ = some (.bool false) := by rw [hk7.cell 0]; rfl
          have f0 : w7.frozen? ⟨w6.heap.size, 0, none⟩ = false := hk7.frozen 0
          have y1 : w7.cell? ⟨w6.heap.size, 1, none⟩ = some (.int .i64 0) := by rw [hk7.cell 1]; rfl
          have f1 : w7.frozen? ⟨w6.heap.size, 1, none⟩ = false := hk7.frozen 1
          have y2 : w7.cell? ⟨w6.heap.size, 2, none⟩ = some (.int .i64 0) := by rw [hk7.cell 2]; rfl
          have f2 : w7.frozen? ⟨w6.heap.size, 2, none⟩ = false := hk7.frozen 2
          have y3 : w7.cell? ⟨w6.heap.size, 3, none⟩ = some (.slice none 0 0) := by rw [hk7.cell 3]; rfl
          have f3 : w7.frozen? ⟨w6.heap.size, 3, none⟩ = false := hk7.frozen 3
          have y4 : w7.cell? ⟨w6.heap.size, 4, none⟩ = some (.slice none 0 0) := by rw [hk7.cell 4]; rfl
          have f4 : w7.frozen? ⟨w6.heap.size, 4, none⟩ = false := hk7.frozen 4
          clear hk7
          go_simp
          obtain ⟨w8, hw8⟩ : ∃ w8, w8 = ((((w7.setCell ⟨w6.heap.size, 0, none⟩ (.bool false)).setCell ⟨w6.heap.size, 1, none⟩ (.int .i64 0)).setCell ⟨w6.heap.size, 2, none⟩ (.int .i64 0)).setCell ⟨w6.heap.size, 3, none⟩ (.slice none 0 0)).setCell ⟨w6.heap.size, 4, none⟩ (.slice none 0 0) := ⟨_, rfl⟩
          rw [← hw8]
          have hb8 : Below w6.heap.size w6 w8 := by rw [hw8]; exact bset (bset (bset (bset (bset HB67.out (Nat.le_refl _) _) (Nat.le_refl _) _) (Nat.le_refl _) _) (Nat.le_refl _) _) (Nat.le_refl _) _
          clear y0 y1 y2 y3 y4 f0 f1 f2 f3 f4
          refine hK.out _ _ (hb8) (fun hHeld => ?_)
          clear hK K
          (try simp only [Act.put, List.setIfInBounds_toArray, List.set_cons_zero, List.set_cons_succ])
          refine take_want (i := 14) (v := ?v14k4) rfl (by kernel_rfl) (by kernel_rfl) (by kernel_rfl) (fun _ _ _ h => h) (by rfl) ?y14k4 (by assumption) ?r14k4
          case y14k4 => (intro w hSw; go_simp; all_goals with_reducible rfl)
          (try simp only [Act.put, List.setIfInBounds_toArray, List.set_cons_zero, List.set_cons_succ])
          refine wpAnyH_done (by kernel_rfl) ?_ _
          have HB8 := Lib.hid (bthen HB6.out hb8)
          have HB68 := Lib.hid hb8
          clear hb8 hw8 hHeld
          go_upto_region 12 with fail
          obtain ⟨s1, hs1⟩ : ∃ s1, s1 = strOfNums X1 := ⟨_, rfl⟩
          obtain ⟨s2, hs2⟩ : ∃ s2, s2 = strOfNums X2 := ⟨_, rfl⟩
          obtain ⟨ro, hro⟩ := bool_of (SameJ z1 z2)
          have HCV := Lib.hid (fun W (h : Below w8.heap.size w8 W) => And.intro (show Sem.run Tryd.prog (convert 25 9 (.slice (some ⟨gx, 0, none⟩) lx kx)) W = .ok (.string s1) W by rw [hs1]; exact conv_any ((HRX6.out.keep (Nat.le_refl _) HB68.out).keep (Nat.le_refl _) h) HLX.out) (show Sem.run Tryd.prog (convert 25 9 (.slice (some ⟨gy, 0, none⟩) ly ky)) W = .ok (.string s2) W by rw [hs2]; exact conv_any ((HRY6.out.keep (Nat.le_refl _) HB68.out).keep (Nat.le_refl _) h) HLY.out))
          have HOP := Lib.hid (fun W (h : Below w8.heap.size w8 W) => one_any zp z1 W (EvO.evg ((HEP6.out.keep HB68.out).keep h)) (HG1.out.keep (Nat.le_refl _) (HB8.out.trans (h.mono HB8.out.size))) (by have h1 := (EvO.evg HEP6.out).nd; have h2 := HSP.out.D; have h3 := HG1.out.nd; have h4 := HS1.out.1; rw [h1, h2, ← h3]; exact h4) HS1.out.1 (by have h1 := (EvO.evg HEP6.out).nx; have h2 := HSP.out.X; have h3 := HG1.out.nx; have h4 := HS1.out.2; rw [h1, h2, ← h3]; exact h4) HS1.out.2 true (by simp only [true_iff]; exact HSP.out))
          have HOO := Lib.hid (fun W (h : Below w8.heap.size w8 W) => one_any z1 z2 W (HG1.out.keep (Nat.le_refl _) (HB8.out.trans (h.mono HB8.out.size))) (HG2.out.keep (Nat.le_refl _) (HB8.out.trans (h.mono HB8.out.size))) HS1.out.1 HS2.out.1 HS1.out.2 HS2.out.2 ro hro)
          have HEQ := Lib.hid (show (s1.toList == s2.toList) = ro from by
            rw [ByteArray.toList_eq, ByteArray.toList_eq, Bool.eq_iff_iff, beq_iff_eq, hro]
            constructor
            · intro h
              have h1 : X1 = X2 := strOf_inj HXB.out HYB.out (by rw [← hs1, ← hs2]; exact ByteArray.ext (Array.toList_inj.1 h))
              exact encJ_inj HR1.out HR2.out (by rw [← HX1.out, ← HX2.out, h1])
            · intro h
              rw [hs1, hs2, HX1.out, HX2.out, h.enc])
          clear hs1 hs2 hro
          refine wp_region_held_drew (S := fun W => Below w8.heap.size w8 W) (by kernel_rfl) (below_drewN (Below.refl _ _) 1) ?_
          intro hHeld
          refine wpAnyH_ready (rs := [0]) (by kernel_rfl) (by simp) ?_
          refine AllReadyH.cons rfl (fun K hK => ?_) AllReadyH.nil
          go_simp
          (go_at_call 8; refine (alive_any _ (HT.out.keep (HB8.out.trans (hHeld.mono HB8.out.size)))).mono ?_; rintro e w9 ⟨rfl, hb9⟩)
          have hb89 : Below w8.heap.size w8 w9 := bthen hHeld hb9
          refine hK.out _ _ (hb89) (fun hHeld => ?_)
          clear hK K
          (try simp only [Act.put, List.setIfInBounds_toArray, List.set_cons_zero, List.set_cons_succ])
          refine take_want (i := 1) (v := ?v1k6) rfl (by kernel_rfl) (by kernel_rfl) (by kernel_rfl) (fun _ _ _ h => h) (by rfl) ?y1k6 (by assumption) ?r1k6
          case y1k6 => (intro w hSw; go_simp; all_goals with_reducible rfl)
          (try simp only [Act.put, List.setIfInBounds_toArray, List.set_cons_zero, List.set_cons_succ])
          refine take_want (i := 2) (v := ?v2k6) rfl (by kernel_rfl) (by kernel_rfl) (by kernel_rfl) (fun _ _ _ h => h) (by rfl) ?y2k6 (by assumption) ?r2k6
          case y2k6 => (intro w hSw; go_simp; all_goals with_reducible rfl)
          (try simp only [Act.put, List.setIfInBounds_toArray, List.set_cons_zero, List.set_cons_succ])
          refine take_want (i := 3) (v := ?v3k6) rfl (by kernel_rfl) (by kernel_rfl) (by kernel_rfl) (fun _ _ _ h => h) (by rfl) ?y3k6 (by assumption) ?r3k6
          case y3k6 => (intro w hSw; go_simp; all_goals with_reducible rfl)
          (try simp only [Act.put, List.setIfInBounds_toArray, List.set_cons_zero, List.set_cons_succ])
          refine take_want (i := 4) (v := ?v4k6) rfl (by kernel_rfl) (by kernel_rfl) (by kernel_rfl) (fun _ _ _ h => h) (by rfl) ?y4k6 (by assumption) ?r4k6
          case y4k6 => (intro w hSw; go_simp; all_goals with_reducible rfl)
          (try simp only [Act.put, List.setIfInBounds_toArray, List.set_cons_zero, List.set_cons_succ])
          refine take_want (i := 5) (v := ?v5k6) rfl (by kernel_rfl) (by kernel_rfl) (by kernel_rfl) (fun _ _ _ h => h) (by rfl) ?y5k6 (by assumption) ?r5k6
          case y5k6 => (intro w hSw; go_simp; all_goals with_reducible rfl)
          (try simp only [Act.put, List.setIfInBounds_toArray, List.set_cons_zero, List.set_cons_succ])
          refine take_want (i := 6) (v := ?v6k6) rfl (by kernel_rfl) (by kernel_rfl) (by kernel_rfl) (fun _ _ _ h => h) (by rfl) ?y6k6 (by assumption) ?r6k6
          case y6k6 => (intro w hSw; obtain ⟨q0, q1, q2, q3, q4⟩ := HPC.out w (HB68.out.trans (hSw.mono HB68.out.size)); go_simp; all_goals with_reducible rfl)
          (try simp only [Act.put, List.setIfInBounds_toArray, List.set_cons_zero, List.set_cons_succ])
          refine take_want (i := 7) (v := ?v7k6) rfl (by kernel_rfl) (by kernel_rfl) (by kernel_rfl) (fun _ _ _ h => h) (by rfl) ?y7k6 (by assumption) ?r7k6
          case y7k6 => (intro w hSw; go_simp; all_goals with_reducible rfl)
          (try simp only [Act.put, List.setIfInBounds_toArray, List.set_cons_zero, List.set_cons_succ])
          refine take_want (i := 8) (v := ?v8k6) rfl (by kernel_rfl) (by kernel_rfl) (by kernel_rfl) (fun _ _ _ h => h) (by rfl) ?y8k6 (by assumption) ?r8k6
          case y8k6 => (intro w hSw; obtain ⟨_, ⟨q0, q1, q2, q3, q4⟩, _⟩ := HCC.out w (HB8.out.trans (hSw.mono HB8.out.size)); go_simp; all_goals with_reducible rfl)
          (try simp only [Act.put, List.setIfInBounds_toArray, List.set_cons_zero, List.set_cons_succ])
          refine wpAnyH_ready (rs := [9]) (by kernel_rfl) (by simp) ?_
          refine AllReadyH.cons rfl (fun K hK => ?_) AllReadyH.nil
          go_simp
          (go_at_call 21; refine (HOP.out _ hHeld).mono ?_; rintro e w10 ⟨rfl, hb10⟩)
          have hb810 : Below w8.heap.size w8 w10 := bthen hHeld hb10
          refine hK.out _ _ (hb810) (fun hHeld => ?_)
          clear hK K
          (try simp only [Act.put, List.setIfInBounds_toArray, List.set_cons_zero, List.set_cons_succ])
          refine take_want (i := 10) (v := ?v10k6) rfl (by kernel_rfl) (by kernel_rfl) (by kernel_rfl) (fun _ _ _ h => h) (by rfl) ?y10k6 (by assumption) ?r10k6
          case y10k6 => (intro w hSw; go_simp; all_goals with_reducible rfl)
          (try simp only [Act.put, List.setIfInBounds_toArray, List.set_cons_zero, List.set_cons_succ])
          refine take_want (i := 11) (v := ?v11k6) rfl (by kernel_rfl) (by kernel_rfl) (by kernel_rfl) (fun _ _ _ h => h) (by rfl) ?y11k6 (by assumption) ?r11k6
          case y11k6 => (intro w hSw; go_simp; all_goals with_reducible rfl)
          (try simp only [Act.put, List.setIfInBounds_toArray, List.set_cons_zero, List.set_cons_succ])
          refine take_want (i := 12) (v := ?v12k6) rfl (by kernel_rfl) (by kernel_rfl) (by kernel_rfl) (fun _ _ _ h => h) (by rfl) ?y12k6 (by assumption) ?r12k6
          case y12k6 => (intro w hSw; go_simp; all_goals with_reducible rfl)
          (try simp only [Act.put, List.setIfInBounds_toArray, List.set_cons_zero, List.set_cons_succ])
          refine take_want (i := 13) (v := ?v13k6) rfl (by kernel_rfl) (by kernel_rfl) (by kernel_rfl) (fun _ _ _ h => h) (by rfl) ?y13k6 (by assumption) ?r13k6
          case y13k6 => (intro w hSw; go_simp; all_goals with_reducible rfl)
          (try simp only [Act.put, List.setIfInBounds_toArray, List.set_cons_zero, List.set_cons_succ])
          refine take_want (i := 14) (v := ?v14k6) rfl (by kernel_rfl) (by kernel_rfl) (by kernel_rfl) (fun _ _ _ h => h) (by rfl) ?y14k6 (by assumption) ?r14k6
          case y14k6 => (intro w hSw; go_simp; all_goals with_reducible rfl)
          (try simp only [Act.put, List.setIfInBounds_toArray, List.set_cons_zero, List.set_cons_succ])
          refine take_want (i := 15) (v := ?v15k6) rfl (by kernel_rfl) (by kernel_rfl) (by kernel_rfl) (fun _ _ _ h => h) (by rfl) ?y15k6 (by assumption) ?r15k6
          case y15k6 => (intro w hSw; go_simp; all_goals with_reducible rfl)
          (try simp only [Act.put, List.setIfInBounds_toArray, List.set_cons_zero, List.set_cons_succ])
          refine take_want (i := 16) (v := ?v16k6) rfl (by kernel_rfl) (by kernel_rfl) (by kernel_rfl) (fun _ _ _ h => h) (by rfl) ?y16k6 (by assumption) ?r16k6
          case y16k6 => (intro w hSw; go_simp; all_goals with_reducible rfl)
          (try simp only [Act.put, List.setIfInBounds_toArray, List.set_cons_zero, List.set_cons_succ])
          refine take_want (i := 17) (v := ?v17k6) rfl (by kernel_rfl) (by kernel_rfl) (by kernel_rfl) (fun _ _ _ h => h) (by rfl) ?y17k6 (by assumption) ?r17k6
          case y17k6 => (intro w hSw; obtain ⟨q0, q1⟩ := HCV.out w hSw; go_simp; all_goals with_reducible rfl)
          (try simp only [Act.put, List.setIfInBounds_toArray, List.set_cons_zero, List.set_cons_succ])
          refine take_want (i := 18) (v := ?v18k6) rfl (by kernel_rfl) (by kernel_rfl) (by kernel_rfl) (fun _ _ _ h => h) (by rfl) ?y18k6 (by assumption) ?r18k6
          case y18k6 => (intro w hSw; go_simp; all_goals with_reducible rfl)
          (try simp only [Act.put, List.setIfInBounds_toArray, List.set_cons_zero, List.set_cons_succ])
          refine take_want (i := 19) (v := ?v19k6) rfl (by kernel_rfl) (by kernel_rfl) (by kernel_rfl) (fun _ _ _ h => h) (by rfl) ?y19k6 (by assumption) ?r19k6
          case y19k6 => (intro w hSw; obtain ⟨q0, q1⟩ := HCV.out w hSw; go_simp; all_goals with_reducible rfl)
          (try simp only [Act.put, List.setIfInBounds_toArray, List.set_cons_zero, List.set_cons_succ])
          refine take_want (i := 20) (v := ?v20k6) rfl (by kernel_rfl) (by kernel_rfl) (by kernel_rfl) (fun _ _ _ h => h) (by rfl) ?y20k6 (by assumption) ?r20k6
          case y20k6 => (intro w hSw; go_simp; all_goals with_reducible rfl)
          (try simp only [Act.put, List.setIfInBounds_toArray, List.set_cons_zero, List.set_cons_succ])
          refine take_want (i := 21) (v := ?v21k6) rfl (by kernel_rfl) (by kernel_rfl) (by kernel_rfl) (fun _ _ _ h => h) (by rfl) ?y21k6 (by assumption) ?r21k6
          case y21k6 => (intro w hSw; go_simp; all_goals with_reducible rfl)
          (try simp only [Act.put, List.setIfInBounds_toArray, List.set_cons_zero, List.set_cons_succ])
          refine take_want (i := 22) (v := ?v22k6) rfl (by kernel_rfl) (by kernel_rfl) (by kernel_rfl) (fun _ _ _ h => h) (by rfl) ?y22k6 (by assumption) ?r22k6
          case y22k6 => (intro w hSw; obtain ⟨_, ⟨q0, q1, q2, q3, q4⟩, _⟩ := HCC.out w (HB8.out.trans (hSw.mono HB8.out.size)); go_simp; all_goals with_reducible rfl)
          (try simp only [Act.put, List.setIfInBounds_toArray, List.set_cons_zero, List.set_cons_succ])
          refine take_want (i := 23) (v := ?v23k6) rfl (by kernel_rfl) (by kernel_rfl) (by kernel_rfl) (fun _ _ _ h => h) (by rfl) ?y23k6 (by assumption) ?r23k6
          case y23k6 => (intro w hSw; go_simp; all_goals with_reducible rfl)
          (try simp only [Act.put, List.setIfInBounds_toArray, List.set_cons_zero, List.set_cons_succ])
          refine take_want (i := 24) (v := ?v24k6) rfl (by kernel_rfl) (by kernel_rfl) (by kernel_rfl) (fun _ _ _ h => h) (by rfl) ?y24k6 (by assumption) ?r24k6
          case y24k6 => (intro w hSw; obtain ⟨_, _, q0, q1, q2, q3, q4⟩ := HCC.out w (HB8.out.trans (hSw.mono HB8.out.size)); go_simp; all_goals with_reducible rfl)
          (try simp only [Act.put, List.setIfInBounds_toArray, List.set_cons_zero, List.set_cons_succ])
          refine wpAnyH_ready (rs := [25]) (by kernel_rfl) (by simp) ?_
          refine AllReadyH.cons rfl (fun K hK => ?_) AllReadyH.nil
          go_simp
          (go_at_call 21; refine (HOO.out _ hHeld).mono ?_; rintro e w11 ⟨rfl, hb11⟩)
          have hb811 : Below w8.heap.size w8 w11 := bthen hHeld hb11
          refine hK.out _ _ (hb811) (fun hHeld => ?_)
          clear hK K
          (try simp only [Act.put, List.setIfInBounds_toArray, List.set_cons_zero, List.set_cons_succ])
          refine take_want (i := 26) (v := ?v26k6) rfl (by kernel_rfl) (by kernel_rfl) (by kernel_rfl) (fun _ _ _ h => h) (by rfl) ?y26k6 (by assumption) ?r26k6
          case y26k6 => (intro w hSw; go_simp; all_goals with_reducible rfl)
          (try simp only [Act.put, List.setIfInBounds_toArray, List.set_cons_zero, List.set_cons_succ])
          refine take_want (i := 27) (v := ?v27k6) rfl (by kernel_rfl) (by kernel_rfl) (by kernel_rfl) (fun _ _ _ h => h) (by rfl) ?y27k6 (by assumption) ?r27k6
          case y27k6 => (intro w hSw; go_simp; all_goals with_reducible rfl)
          (try simp only [Act.put, List.setIfInBounds_toArray, List.set_cons_zero, List.set_cons_succ])
          refine take_want (i := 28) (v := ?v28k6) rfl (by kernel_rfl) (by kernel_rfl) (by kernel_rfl) (fun _ _ _ h => h) (by rfl) ?y28k6 (by assumption) ?r28k6
          case y28k6 => (intro w hSw; go_simp; all_goals with_reducible rfl)
          (try simp only [Act.put, List.setIfInBounds_toArray, List.set_cons_zero, List.set_cons_succ])
          refine wpAnyH_done (by kernel_rfl) ?_ _
          go_wp2_with fail
          go_ret
          exact ⟨ret_bool (a := ((s1.toList == s2.toList) == ro)) (by rw [HEQ.out]; simp), bthen HBW1.out (HB8.out.trans (hb811.mono HB8.out.size))⟩
end Go.Proofs.YthogafecplhckaaDoor
