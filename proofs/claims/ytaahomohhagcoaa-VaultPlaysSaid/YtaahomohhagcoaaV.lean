/- No more than there is. -/
import Derived.Test.YtaahomohhagcoaaR
import Derived.Test.YtaahomohhagcoaaU
namespace Go.Proofs.Ytaahomohhagcoaa
open Go.RowKit Go.Maps Go.Shelf Go.Lib
set_option linter.unusedSimpArgs false
set_option linter.unusedVariables false
theorem act_armed (P : VZ) : (actZ P).armed = P.armed := by unfold actZ; split <;> rfl
theorem do_room (P : VZ) (x : Act5) : (doS P x).1.room = P.room := by
  unfold doS
  split
  · unfold appendS; split
    · rfl
    · split
      · exact act_room P
      · split <;> exact act_room P
  · split
    · unfold syncS; split
      · rfl
      · split <;> exact act_room P
    · split
      · unfold renameS; split
        · rfl
        · split
          · rfl
          · split <;> exact act_room P
      · split
        · unfold deleteS; split
          · rfl
          · split <;> exact act_room P
        · split
          · unfold armS; split <;> rfl
          · rfl
theorem do_bad (P : VZ) (x : Act5) (h : (doS P x).2 ≠ 0) : (doS P x).1.F = P.F := by
  unfold doS at h ⊢
  split
  · rename_i h1
    rw [if_pos h1] at h
    unfold appendS at h ⊢; split
    · rfl
    · rename_i h2
      rw [if_neg h2] at h
      split
      · exact act_F P
      · rename_i h3
        rw [if_neg h3] at h
        split
        · exact act_F P
        · rename_i h4
          rw [if_neg h4] at h
          exact absurd rfl h
  · rename_i h1
    rw [if_neg h1] at h
    split
    · rename_i h2
      rw [if_pos h2] at h
      unfold syncS at h ⊢
      cases hl : lookF P.F x.a with
      | none => rfl
      | some f =>
        simp only [hl] at h ⊢
        split
        · exact act_F P
        · rename_i h3
          rw [if_neg h3] at h
          exact absurd rfl h
    · rename_i h2
      rw [if_neg h2] at h
      split
      · rename_i h3
        rw [if_pos h3] at h
        unfold renameS at h ⊢
        split
        · rfl
        · rename_i h4
          rw [if_neg h4] at h
          cases hl : lookF P.F x.a with
          | none => rfl
          | some f =>
            simp only [hl] at h ⊢
            split
            · exact act_F P
            · rename_i h5
              rw [if_neg h5] at h
              exact absurd rfl h
      · rename_i h3
        rw [if_neg h3] at h
        split
        · rename_i h4
          rw [if_pos h4] at h
          unfold deleteS at h ⊢
          cases hl : lookF P.F x.a with
          | none => rfl
          | some f =>
            simp only [hl] at h ⊢
            split
            · exact act_F P
            · rename_i h5
              rw [if_neg h5] at h
              exact absurd rfl h
        · rename_i h4
          rw [if_neg h4] at h
          split
          · unfold armS; split <;> rfl
          · rfl
theorem do_app {P : VZ} {x : Act5} (hP : oneEach P.F) (hk : x.kind = 1) (h : (doS P x).2 = 0) : usedF (doS P x).1.F = usedF P.F + x.bs.length := by
  unfold doS at h ⊢
  rw [if_pos hk] at h ⊢
  unfold appendS at h ⊢
  split
  · rename_i h1
    rw [if_pos h1] at h; cases h
  · rename_i h1
    rw [if_neg h1] at h
    split
    · rename_i h2
      rw [if_pos h2] at h; cases h
    · rename_i h2
      rw [if_neg h2] at h
      split
      · rename_i h3
        rw [if_pos h3] at h; cases h
      · have hu := used_put hP (addF (lkF P.F x.a) x.bs)
        show usedF (putF (actZ P).F (addF (lkF P.F x.a) x.bs)) = _
        rw [act_F]
        have e1 : (addF (lkF P.F x.a) x.bs).n = (lkF P.F x.a).n + x.bs.length := rfl
        have e2 : (addF (lkF P.F x.a) x.bs).name = x.a := by
          show (lkF P.F x.a).name = x.a
          unfold lkF
          cases hl : lookF P.F x.a with
          | none => rfl
          | some f => exact (look_name hl).1
        have e3 : (lkF P.F x.a).n = ((lookF P.F x.a).map FZ.n).getD 0 := by unfold lkF; cases lookF P.F x.a <;> rfl
        rw [e2] at hu
        omega
set_option maxRecDepth 100000 in
set_option maxHeartbeats 4000000 in
theorem free_at {B a : Nat} {V : VZ} {w : World} (h : VRep w B a V) (fr : Nat) (hfr : fr = V.room - usedF V.F) : Calls Try.prog 29 #[.pointer (some ⟨a, 0, none⟩)] w fun e w' => e = .returned (.int .i64 (fr : Int)) ∧ ∃ m, w' = w.drewN m := by
  have c0 := h.core.blk.cell 0
  have c1 := h.core.blk.cell 1
  simp at c0 c1
  have hr := h.core.room
  have hu := h.used
  obtain ⟨u, hu2⟩ : ∃ u : Nat, u = usedF V.F := ⟨_, rfl⟩
  obtain ⟨q, hq⟩ : ∃ q : Nat, q = V.room := ⟨_, rfl⟩
  rw [← hu2, ← hq] at hfr hu
  rw [← hu2] at c1
  rw [← hq] at c0 hr
  have hw : IntKind.i64.wrap ((q : Int) - (u : Int)) = (fr : Int) := by rw [IntWalk.i64_in _ (by omega)]; omega
  clear h hu2 hq hfr
  go_enter Try.func29, Try.ntmps29
  go_upto_region 3 with fail
  go_quiet (fail)
  go_wp2_with fail
  go_ret
  exact ⟨rfl, _, rfl⟩
theorem free_draw {B a : Nat} {V : VZ} {w : World} (h : VRep w B a V) (z : Nat) (fr : Nat) (hfr : fr = V.room - usedF V.F) : Calls Try.prog 29 #[.pointer (some ⟨a, 0, none⟩)] (w.drewN z) fun e w' => e = .returned (.int .i64 (fr : Int)) ∧ ∃ m, w' = (w.drewN z).drewN m :=
  free_at (h.below (below_drewN (Below.refl _ _) z)) fr hfr
theorem free_bl {B a : Nat} {V : VZ} {w : World} (h : VRep w B a V) (fr : Nat) (hfr : fr = V.room - usedF V.F) : Calls Try.prog 29 #[.pointer (some ⟨a, 0, none⟩)] w fun e w' => e = .returned (.int .i64 (fr : Int)) ∧ Below w.heap.size w w' := by
  refine (free_at h fr hfr).mono ?_
  rintro e w' ⟨he, m, rfl⟩
  exact ⟨he, below_drewN (Below.refl _ _) _⟩
theorem used_take {F : List FZ} {j : Nat} (h : j < F.length) : usedF (F.take (j + 1)) = usedF (F.take j) + F[j].n := by
  rw [take_snoc _ _ h]; unfold usedF; rw [List.map_append, List.sum_append]; simp
theorem used_take_le (F : List FZ) (j : Nat) : usedF (F.take j) ≤ usedF F := by
  have h : usedF F = usedF (F.take j) + usedF (F.drop j) := by
    unfold usedF
    rw [← List.sum_append, ← List.map_append, List.take_append_drop]
  omega
theorem norm_room {V : VZ} {P : VZ} (h : normZ V = P) : V.room = P.room := by rw [← h]; rfl
theorem norm_usedZ {V : VZ} {P : VZ} (h : normZ V = P) : usedF V.F = usedF P.F := by rw [← h]; exact (norm_used V.F).symm
theorem norm_one {V : VZ} (h : oneEach V.F) : oneEach (normZ V).F := by
  show oneEach (V.F.map normF)
  unfold oneEach
  rw [List.pairwise_map]; exact h
set_option maxRecDepth 100000 in
set_option maxHeartbeats 16000000 in
theorem room_walk (r : Int) (A : Option Addr) (n c : Nat) (L : List Act5) (w : World) (hA : Row w A (cellsA L)) (hg : ∀ x ∈ L, OkAct w w.heap.size x) (hn : n = L.length) (hn2 : n ≤ 9223372036854775807) (hnc : n ≤ c) (h1 : -9223372036854775808 ≤ r) (h2 : r ≤ 9223372036854775807) :
    Calls Try.prog 6 #[.int .i64 r, .slice A n c] w fun e w' => e = .returned (.bool true) ∧ Below w.heap.size w w' := by
  have HA := Lib.hid hA
  have HG := Lib.hid hg
  have HN := Lib.hid hn
  have HN2X := Lib.hid hn2
  have HNW := Lib.hid (newP_any r w h1 h2)
  clear hA hg hn
  by_cases hbad : r < 0 ∨ 16777216 < r
  · have HBAD := Lib.hid hbad
    rcases hbad with hb | hb
    · have k1 : decide (r < 0) = true := by simp; omega
      clear HA HG HN hn2 hnc h1 h2 hb
      go_enter Try.func6, Try.ntmps6
      go_wp2_with (first
        | (go_at_call 9; refine HNW.out.mono ?_; rintro e w1 hq; obtain ⟨rfl, rfl⟩ : e = .returned (.tuple #[.pointer none, .int .i64 1]) ∧ w = w1 := (by rcases hq with ⟨_, h1, h2⟩ | ⟨q, _, _, h1, h2, _⟩; exact ⟨h1, h2⟩; exact absurd HBAD.out (by omega)); clear hq)
        | (go_at_call 11; refine (alive_any w).mono ?_; rintro e w2 ⟨rfl, hb⟩; have HB := Lib.hid hb; clear hb))
      go_ret
      exact ⟨rfl, HB.out⟩
    · have k1 : decide (r < 0) = false := by simp; omega
      have k2 : decide (16777216 < r) = true := by simp; omega
      clear HA HG HN hn2 hnc h1 h2 hb
      go_enter Try.func6, Try.ntmps6
      go_wp2_with (first
        | (go_at_call 9; refine HNW.out.mono ?_; rintro e w1 hq; obtain ⟨rfl, rfl⟩ : e = .returned (.tuple #[.pointer none, .int .i64 1]) ∧ w = w1 := (by rcases hq with ⟨_, h1, h2⟩ | ⟨q, _, _, h1, h2, _⟩; exact ⟨h1, h2⟩; exact absurd HBAD.out (by omega)); clear hq)
        | (go_at_call 11; refine (alive_any w).mono ?_; rintro e w2 ⟨rfl, hb⟩; have HB := Lib.hid hb; clear hb))
      go_ret
      exact ⟨rfl, HB.out⟩
  obtain ⟨q, rfl⟩ : ∃ q : Nat, r = (q : Int) := ⟨r.toNat, by omega⟩
  have hq2 : q ≤ 16777216 := by omega
  clear hbad h1 h2 HNW
  have HQ2 := Lib.hid hq2
  go_enter Try.func6, Try.ntmps6
  go_wp2_with (go_at_call 9; refine (newG_any q w HQ2.out).mono ?_; rintro e w1 ⟨mb, a, rfl, hv, hb⟩; have HV1 := Lib.hid hv; have HB1 := Lib.hid hb; clear hv hb)
  go_loopw [7] (fun i wr => ∃ (k : Nat) (V : VZ), k ≤ n ∧ k ≤ 80 ∧ i = .int .i64 k ∧ Hid (VRep wr w.heap.size a V) ∧ Hid (V.room = q) ∧ Hid (Below w.heap.size w wr)) (fun i _ => 80 - (intOf i).toNat)
  case atStart => exact ⟨0, newZ q mb, by omega, by omega, rfl, HV1, Lib.hid rfl, HB1⟩
  case round =>
    clear HV1 HB1
    obtain ⟨k, V, hk, hk8, rfl, HV, HR, HB⟩ := hrel
    by_cases hlt : k < n ∧ k < 80
    rotate_left
    · have hd : (n ≤ k ∧ ¬ ((k : Int) < (n : Int))) ∨ ((k : Int) < (n : Int) ∧ ¬ ((k : Int) < 80)) := by omega
      clear hlt hk hk8
      rcases hd with ⟨hd, hd3⟩ | ⟨hd3, hd4⟩
      all_goals
        go_wp2_with (go_at_call 11; refine (alive_any wr).mono ?_; rintro e w2 ⟨rfl, hb⟩; have HB2 := Lib.hid (HB.out.trans (hb.mono HB.out.size)); clear hb)
        go_ret
        exact ⟨rfl, HB2.out⟩
    obtain ⟨hlt, hlt8⟩ := hlt
    have hkz : k < L.length := by have := HN.out; omega
    obtain ⟨sb, off, rfl, c0, c1, c2, c3, c4⟩ := act_cells (HA.out.keep (Nat.le_refl _) HB.out) hkz
    obtain ⟨x, hx⟩ : ∃ x, x = L[k] := ⟨_, rfl⟩
    rw [← hx] at c0 c1 c2 c3 c4
    have HX := Lib.hid (show OkAct wr w.heap.size x from (HG.out x (by rw [hx]; exact List.getElem_mem _)).keep HB.out)
    obtain ⟨w4, hw4⟩ : ∃ w4, w4 = wr.alloc (.cells #[.int .i64 x.kind, .int .i64 x.n, .string x.a, .string x.z, .slice x.A x.nb x.cb] 33) := ⟨_, rfl⟩
    have hb4 : Below wr.heap.size wr w4 := by rw [hw4]; exact bpush (Below.refl _ _) _
    have HK4 := Lib.hid (show Blk w4 wr.heap.size 33 #[.int .i64 x.kind, .int .i64 x.n, .string x.a, .string x.z, .slice x.A x.nb x.cb] by rw [hw4]; exact Blk.new _ _ _)
    have HB4 := Lib.hid hb4
    obtain ⟨g, hgg⟩ : ∃ g, g = wr.heap.size := ⟨_, rfl⟩
    have HGG := Lib.hid hgg
    have HW4 := Lib.hid hw4
    have hk0 : (0 : Int) ≤ (k : Int) := by omega
    have hk1 : (k : Int) < (n : Int) := by omega
    have hk2 : (k : Int) < 80 := by omega
    clear hx hb4 hw4 hgg
    go_upto_region 8 with fail
    rw [← HW4.out]
    rw [← HGG.out] at HK4 ⊢
    clear c0 c1 c2 c3 c4 hk1 hk2
    have HK4' := HK4.out
    have b0 := HK4'.cell 0
    have b1 := HK4'.cell 1
    have b2 := HK4'.cell 2
    have b3 := HK4'.cell 3
    have b4 := HK4'.cell 4
    simp at b0 b1 b2 b3 b4
    obtain ⟨qf, hqf⟩ : ∃ qf, qf = (decide (x.a.size ≤ 200) && decide (x.z.size ≤ 200) && decide (x.nb ≤ 200)) := ⟨_, rfl⟩
    have HQF := Lib.hid hqf
    have HCP := Lib.hid (fun W (hb : Below w4.heap.size w4 W) => (show W.cell? ⟨g, 0, none⟩ = some (.int .i64 x.kind) ∧ W.cell? ⟨g, 1, none⟩ = some (.int .i64 x.n) ∧ W.cell? ⟨g, 2, none⟩ = some (.string x.a) ∧ W.cell? ⟨g, 3, none⟩ = some (.string x.z) ∧ W.cell? ⟨g, 4, none⟩ = some (.slice x.A x.nb x.cb) ∧ Blk W g 33 #[.int .i64 x.kind, .int .i64 x.n, .string x.a, .string x.z, .slice x.A x.nb x.cb] from by
      have h : Blk W g 33 #[.int .i64 x.kind, .int .i64 x.n, .string x.a, .string x.z, .slice x.A x.nb x.cb] := (hb.block _ HK4.out.lt).trans HK4.out
      exact ⟨by simpa using h.cell 0, by simpa using h.cell 1, by simpa using h.cell 2, by simpa using h.cell 3, by simpa using h.cell 4, h⟩))
    clear HK4' hqf
    go_upto_region 9 with (go_at_call 12; refine (fits_any x.kind x.n x.a x.z x.A x.nb x.cb qf w4 HQF.out).mono ?_; rintro e w5 ⟨rfl, hb⟩; have HB5 := Lib.hid hb; clear hb)
    clear b0 b1 b2 b3 b4
    obtain ⟨b0, b1, b2, b3, b4, hk5⟩ := HCP.out _ HB5.out
    have HK5 := Lib.hid hk5
    have HBW5 := Lib.hid (HB.out.trans ((bthen HB4.out HB5.out).mono HB.out.size))
    have HV5 := Lib.hid (HV.out.below (bthen HB4.out HB5.out))
    clear hk5 HCP HK4 HW4
    cases qf with
    | false =>
      go_wp2_with fail
      go_roundw
      case rel => exact ⟨k + 1, V, by omega, by omega, by go_num, HV5, HR, HBW5⟩
      case measure => simp [intOf]; omega
    | true =>
    by_cases hk4 : 4 < x.kind
    · go_wp2_with fail
      go_roundw
      case rel => exact ⟨k + 1, V, by omega, by omega, by go_num, HV5, HR, HBW5⟩
      case measure => simp [intOf]; omega
    have hk4' : ¬ (4 < x.kind) := hk4
    obtain ⟨fr, hfr⟩ : ∃ fr, fr = V.room - usedF V.F := ⟨_, rfl⟩
    have HFR := Lib.hid hfr
    clear hfr
    go_upto_region 11 with (go_at_call 29; refine (free_bl HV5.out fr HFR.out).mono ?_; rintro e w6 ⟨rfl, hb6⟩; have HB6 := Lib.hid hb6; clear hb6)
    clear b0 b1 b2 b3 b4
    have HK6 := Lib.hid (show Blk w6 g 33 #[.int .i64 x.kind, .int .i64 x.n, .string x.a, .string x.z, .slice x.A x.nb x.cb] from (HB6.out.block _ HK5.out.lt).trans HK5.out)
    have b0 : w6.cell? ⟨g, 0, none⟩ = some (.int .i64 x.kind) := by simpa using HK6.out.cell 0
    have b1 : w6.cell? ⟨g, 1, none⟩ = some (.int .i64 x.n) := by simpa using HK6.out.cell 1
    have b2 : w6.cell? ⟨g, 2, none⟩ = some (.string x.a) := by simpa using HK6.out.cell 2
    have b3 : w6.cell? ⟨g, 3, none⟩ = some (.string x.z) := by simpa using HK6.out.cell 3
    have b4 : w6.cell? ⟨g, 4, none⟩ = some (.slice x.A x.nb x.cb) := by simpa using HK6.out.cell 4
    have HBW6 := Lib.hid (HBW5.out.trans (HB6.out.mono HBW5.out.size))
    have HV6 := Lib.hid (HV5.out.below HB6.out)
    have HDO := Lib.hid (do_any w.heap.size a V x w6 HV6.out (HX.out.keep (bthen HB4.out (bthen HB5.out HB6.out) |>.mono HB.out.size)) HBW6.out.size)
    have hgf : ¬ Foot a V g := fun hf => by
      have h1 := (HV.out.foot_lt hf).1
      have h2 := HGG.out
      omega
    have HGF := Lib.hid hgf
    obtain ⟨X, hX⟩ : ∃ X, X = doS (normZ V) x := ⟨_, rfl⟩
    rw [← hX] at HDO
    have HXD := Lib.hid hX
    clear hX hgf
    go_upto_region 12 with (go_at_call 13; refine HDO.out.mono ?_; rintro e w7 ⟨V7, rfl, hn7, hl7⟩; have HN7 := Lib.hid hn7; have HBW7 := Lib.hid (HBW6.out.trans (ActP.below HV6.out hl7 HBW6.out.size)); have HV7 := Lib.hid hl7.rep; have HK7 := Lib.hid (show Blk w7 g 33 #[.int .i64 x.kind, .int .i64 x.n, .string x.a, .string x.z, .slice x.A x.nb x.cb] from (hl7.fr.block _ HK6.out.lt HGF.out).trans HK6.out); clear hn7 hl7)
    clear b0 b1 b2 b3 b4
    obtain ⟨ec, hec⟩ : ∃ ec, ec = X.2 := ⟨_, rfl⟩
    rw [← hec]
    have HEC := Lib.hid hec
    clear hec
    have HLI := Lib.hid (list_any w.heap.size a V7 w7 HV7.out)
    go_upto_region 14 with (go_at_call 27; refine HLI.out.mono ?_; rintro e w8 ⟨D, kk, rfl, ho, hb⟩; have HO8 := Lib.hid ho; have HB8 := Lib.hid hb; clear ho hb)
    obtain ⟨nl, hnl⟩ : ∃ nl, nl = V7.F.length := ⟨_, rfl⟩
    rw [← hnl] at HO8 ⊢
    have HNL := Lib.hid hnl
    have hnl200 : nl ≤ 200 := by rw [hnl]; exact HV7.out.len
    have HROW := Lib.hid (show Row w8 D (texts (namesF V7.F)) from by
      obtain ⟨A', c', e, hrow, _⟩ := own_slice HO8.out
      cases e; exact hrow)
    have HNK := Lib.hid (show nl ≤ kk from by
      obtain ⟨A', c', e, _, h, _⟩ := own_slice HO8.out
      cases e; exact h)
    clear hnl HO8 HLI HDO
    go_wp2_with fail
    go_loopw [12, 14] (fun nn i wr2 => ∃ (j acc : Nat), j ≤ nl ∧ i = .int .i64 j ∧ nn = .int .i64 acc ∧ Hid (acc = usedF (V7.F.take j)) ∧ Hid (Below w8.heap.size w8 wr2)) (fun _ i _ => nl - (intOf i).toNat)
    case atStart => exact ⟨0, 0, by omega, rfl, rfl, Lib.hid rfl, Lib.hid (Below.refl _ _)⟩
    case round =>
      obtain ⟨j, acc, hj, rfl, rfl, HAC, HB9⟩ := hrel
      have HBW9 := Lib.hid (HBW7.out.trans ((bthen HB8.out HB9.out).mono HBW7.out.size))
      have HV9 := Lib.hid (HV7.out.below (bthen HB8.out HB9.out))
      by_cases hjn : j < nl
      · have hjl : j < V7.F.length := by have := HNL.out; omega
        obtain ⟨db, dof, rfl, d0⟩ := text_cell (HROW.out.keep (Nat.le_refl _) HB9.out) (show j < (namesF V7.F).length by unfold namesF; rw [List.length_map]; exact hjl)
        obtain ⟨f, hf⟩ : ∃ f, f = V7.F[j] := ⟨_, rfl⟩
        have hfm : f ∈ V7.F := by rw [hf]; exact List.getElem_mem _
        have hfn : (namesF V7.F)[j]'(by unfold namesF; rw [List.length_map]; exact hjl) = f.name := by rw [hf]; simp [namesF]
        rw [hfn] at d0
        have hlk : lkF V7.F f.name = f := by unfold lkF; rw [look_some HV7.out.core.one hfm]; rfl
        have hus := used_take hjl
        rw [← hf] at hus
        have HUS := Lib.hid hus
        have hle := used_take_le V7.F (j + 1)
        have hru := HV7.out.used
        have hrr := HV7.out.core.room
        have hac := HAC.out
        have hsum : acc + f.n ≤ 16777216 := by omega
        have HRD := Lib.hid (read_any w.heap.size a V7 f.name _ HV9.out (by have := HV7.out.name f hfm; omega))
        have HLK := Lib.hid hlk
        have HFN := Lib.hid (HV7.out.own f hfm).n
        have hj0 : (0 : Int) ≤ (j : Int) := by omega
        have hj1 : (j : Int) < (nl : Int) := by omega
        have hnk := HNK.out
        clear hf hfm hfn hlk hus hle hru hrr hac
        go_upto_region 18 with (go_at_call 20; refine HRD.out.mono ?_; rintro e w10 hq; obtain ⟨D2, n2, k2, rfl, ho2, hn2', hn3, hb10⟩ := hq; rw [HLK.out] at hn2'; have HN2 := Lib.hid (hn2'.trans HFN.out.symm); have HB10 := Lib.hid hb10; clear ho2 hn2' hn3 hb10)
        obtain rfl := HN2.out
        go_wp2_with fail
        go_roundw
        case rel => exact ⟨j + 1, acc + f.n, by omega, by go_num, by go_num, Lib.hid (by rw [HUS.out, ← HAC.out]), Lib.hid (bthen HB9.out HB10.out)⟩
        case measure => simp [intOf]; omega
      · have hjx : ¬ ((j : Int) < (nl : Int)) := by omega
        have hu9 : acc = usedF V7.F := by
          have h := HAC.out
          rw [List.take_of_length_le (by have := HNL.out; omega)] at h
          exact h
        have HU9 := Lib.hid hu9
        clear hu9 hjn hj HAC
        have hr7 : V7.room = q := by rw [norm_room HN7.out, HXD.out, do_room]; exact HR.out
        have hau : acc ≤ q := by rw [HU9.out, ← hr7]; exact HV7.out.used
        obtain ⟨f7, hf7⟩ : ∃ f7, f7 = q - acc := ⟨_, rfl⟩
        have HFQ := Lib.hid (fun z => free_draw HV9.out z f7 (by rw [hr7, ← HU9.out]; exact hf7))
        have hq16 := HQ2.out
        have hwr : IntKind.i64.wrap ((q : Int) - (acc : Int)) = (f7 : Int) := by rw [IntWalk.i64_in _ (by omega)]; omega
        have hlt1 : decide ((q : Int) < (acc : Int)) = false := by simp; omega
        have hlt2 : decide (q < acc) = false := by simp; omega
        have HK9 := Lib.hid (show Blk _ g 33 #[.int .i64 x.kind, .int .i64 x.n, .string x.a, .string x.z, .slice x.A x.nb x.cb] from ((bthen HB8.out HB9.out).block _ HK7.out.lt).trans HK7.out)
        have b0 := HK9.out.cell 0
        have b4 := HK9.out.cell 4
        simp at b0 b4
        have HR7 := Lib.hid hr7
        have HF7 := Lib.hid hf7
        have HBZ := Lib.hid (fun z => show VRep (World.drewN _ z) w.heap.size a V7 ∧ Below w.heap.size w (World.drewN _ z) from ⟨HV9.out.below (below_drewN (Below.refl _ _) z), below_drewN HBW9.out z⟩)
        have hu0 := norm_usedZ (V := V) rfl
        have HKK := Lib.hid (show k < n ∧ k < 80 from ⟨hlt, hlt8⟩)
        by_cases he0 : ec = 0
        · have he1 : X.2 = 0 := by rw [← HEC.out]; exact he0
          by_cases hk1 : x.kind = 1
          · have hap := do_app (norm_one HV.out.core.one) hk1 (by rw [← HXD.out]; exact he1)
            rw [← HXD.out, ← norm_usedZ HN7.out, ← HU9.out, ← hu0] at hap
            have hnb := HX.out.arg.len
            have hfr := HFR.out
            rw [HR.out] at hfr
            have hwr2 : IntKind.i64.wrap ((fr : Int) - (x.nb : Int)) = (f7 : Int) := by rw [IntWalk.i64_in _ (by omega)]; omega
            rw [hk1] at b0
            subst he0
            clear hap hnb hfr hr7 hf7 hq16 hu0 hk1 hk4 hk4' he1
            go_wp2_with fail
            clear hnl200 hn2 hnc hq2 hk hk8 hlt hlt8 hkz hk0 hjx
            go_quiet ((go_at_call 29; exact Calls.quiet_of (HFQ.out _)))
            obtain ⟨hlt, hlt8⟩ := HKK.out
            have hn2 : n ≤ 9223372036854775807 := HN2X.out
            go_wp2_with fail
            go_roundw
            case rel => exact ⟨k + 1, V7, by omega, by omega, by go_num, Lib.hid (HBZ.out _).1, HR7, Lib.hid (HBZ.out _).2⟩
            case measure => simp [intOf]; omega
          · have hkb : (x.kind == 1) = false := by simpa using hk1
            subst he0
            clear hr7 hf7 hq16 hu0 he1 hk4 hk4'
            go_wp2_with fail
            clear hnl200 hn2 hnc hq2 hk hk8 hlt hlt8 hkz hk0 hjx
            go_quiet ((go_at_call 29; exact Calls.quiet_of (HFQ.out _)))
            obtain ⟨hlt, hlt8⟩ := HKK.out
            have hn2 : n ≤ 9223372036854775807 := HN2X.out
            go_wp2_with fail
            go_roundw
            case rel => exact ⟨k + 1, V7, by omega, by omega, by go_num, Lib.hid (HBZ.out _).1, HR7, Lib.hid (HBZ.out _).2⟩
            case measure => simp [intOf]; omega
        · have hbd := do_bad (normZ V) x (by rw [← HXD.out, ← HEC.out]; exact he0)
          have huu : acc = usedF V.F := by rw [HU9.out, norm_usedZ HN7.out, HXD.out, hbd, hu0]
          have hff : f7 = fr := by rw [HF7.out, HFR.out, HR.out, huu]
          have hcb : (ec == 0) = false := by simpa using he0
          have hcb2 : (ec != 0) = true := by simpa using he0
          obtain rfl := hff
          clear hr7 hf7 hq16 hu0 hbd huu hk4 hk4'
          by_cases hk1 : x.kind = 1
          · have hkb : (x.kind == 1) = true := by simpa using hk1
            rw [hk1] at b0
            clear hkb
            go_wp2_with fail
            clear hnl200 hn2 hnc hq2 hk hk8 hlt hlt8 hkz hk0 hjx
            go_quiet ((go_at_call 29; exact Calls.quiet_of (HFQ.out _)))
            obtain ⟨hlt, hlt8⟩ := HKK.out
            have hn2 : n ≤ 9223372036854775807 := HN2X.out
            go_wp2_with fail
            go_roundw
            case rel => exact ⟨k + 1, V7, by omega, by omega, by go_num, Lib.hid (HBZ.out _).1, HR7, Lib.hid (HBZ.out _).2⟩
            case measure => simp [intOf]; omega
          · have hkb : (x.kind == 1) = false := by simpa using hk1
            go_wp2_with fail
            clear hnl200 hn2 hnc hq2 hk hk8 hlt hlt8 hkz hk0 hjx
            go_quiet ((go_at_call 29; exact Calls.quiet_of (HFQ.out _)))
            obtain ⟨hlt, hlt8⟩ := HKK.out
            have hn2 : n ≤ 9223372036854775807 := HN2X.out
            go_wp2_with fail
            go_roundw
            case rel => exact ⟨k + 1, V7, by omega, by omega, by go_num, Lib.hid (HBZ.out _).1, HR7, Lib.hid (HBZ.out _).2⟩
            case measure => simp [intOf]; omega
end Go.Proofs.Ytaahomohhagcoaa
