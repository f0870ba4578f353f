/- Broken is broken. -/
import Derived.Test.YtaahomohhagcoaaR
import Derived.Test.YtaahomohhagcoaaU
import Derived.Test.YtaahomohhagcoaaT
import Derived.StillTailTactics
namespace Go.Proofs.Ytaahomohhagcoaa
open Go.RowKit Go.Maps Go.Shelf Go.Lib
set_option linter.unusedSimpArgs false
set_option linter.unusedVariables false
theorem copy_same {w : World} {B a : Nat} {V : VZ} (h : VRep w B a V) : copyS (normZ V) = normZ V := by
  have e : (normZ V).F.map (chF kI) = (normZ V).F := by
    show (V.F.map normF).map (chF kI) = V.F.map normF
    rw [List.map_map]
    refine List.map_congr_left fun f hf => ?_
    have hn := (h.own f hf).n
    show chF kI (normF f) = normF f
    show (⟨f.name, none, f.n, 0, f.safe, f.bs.take f.n⟩ : FZ) = ⟨f.name, none, f.n, 0, f.safe, f.bs⟩
    rw [hn, List.take_length]
  unfold copyS likeS
  show (⟨(normZ V).room, (normZ V).armed, (normZ V).fuse, 0, (normZ V).F.map (chF kI)⟩ : VZ) = _
  rw [e]; rfl
theorem ArgB.lift {w : World} {B B' : Nat} {A : Option Addr} {n c : Nat} {bs : List Int} (h : ArgB w B A n c bs) (hB : B ≤ B') : ArgB w B' A n c bs :=
  ⟨h.row, h.len, h.cap, h.nil, h.byt, h.big, fun hne b o e => Nat.lt_of_lt_of_le (h.low hne b o e) hB⟩
theorem OkAct.lift {w : World} {B B' : Nat} {x : Act5} (h : OkAct w B x) (hB : B ≤ B') : OkAct w B' x := ⟨h.lo, h.hi, h.a, h.z, h.arg.lift hB⟩
def fused (Q : VZ) (t : Nat) : VZ := { Q with armed := true, fuse := t }
theorem act_un {Q : VZ} (h : Q.armed = false) : actZ Q = Q := by unfold actZ; rw [if_neg (by rw [h]; simp)]
theorem brk_un {Q : VZ} (h : Q.armed = false) : brkZ Q = false := by unfold brkZ; rw [h]; rfl
theorem act_f0 (Q : VZ) (t : Nat) (h : t ≤ 1) : actZ (fused Q t) = fused Q 0 := by
  unfold actZ fused
  by_cases h0 : 0 < t
  · obtain rfl : t = 1 := by omega
    rfl
  · obtain rfl : t = 0 := by omega
    rfl
theorem act_f2 (Q : VZ) (t : Nat) (h : 2 ≤ t) : actZ (fused Q t) = fused Q (t - 1) := by
  unfold actZ fused
  rw [if_pos ⟨rfl, by show 0 < t; omega⟩]
theorem brk_f0 (Q : VZ) : brkZ (fused Q 0) = true := rfl
theorem brk_f2 (Q : VZ) (t : Nat) (h : 1 ≤ t) : brkZ (fused Q t) = false := by
  show (true && t == 0) = false
  simp; omega
theorem full_f (Q : VZ) (t : Nat) (s : ByteArray) (n : Nat) : fullZ (fused Q t) s n ↔ fullZ Q s n := Iff.rfl
theorem put_f (Q : VZ) (t : Nat) (f : FZ) : putZ (fused Q t) f = fused (putZ Q f) t := rfl
theorem drop_f (Q : VZ) (t : Nat) (s : ByteArray) : dropZ (fused Q t) s = fused (dropZ Q s) t := rfl
theorem burn0 {Q : VZ} {y : Act5} {t : Nat} (hQ : Q.armed = false) (hk : 1 ≤ y.kind ∧ y.kind ≤ 4) (h : (doS Q y).2 ≠ 31) (ht : t ≤ 1) : doS (fused Q t) y = (fused Q 0, 272) := by
  have hb : brkZ (actZ (fused Q t)) = true := by rw [act_f0 Q t ht]; rfl
  have ha := act_f0 Q t ht
  have h1 := act_un hQ
  have h2 := brk_un hQ
  have hF : (fused Q t).F = Q.F := rfl
  rcases (by omega : y.kind = 1 ∨ y.kind = 2 ∨ y.kind = 3 ∨ y.kind = 4) with k | k | k | k
  · unfold doS at h ⊢
    rw [if_pos k] at h ⊢
    unfold appendS at h ⊢
    split
    · rename_i hn
      rw [if_pos hn] at h; exact absurd rfl h
    · rw [ha]
  · unfold doS at h ⊢
    rw [if_neg (by omega), if_pos k] at h ⊢
    unfold syncS at h ⊢
    rw [hF]
    cases hl : lookF Q.F y.a with
    | none => rw [hl] at h; exact absurd rfl h
    | some f => simp only; rw [if_pos hb, ha]
  · unfold doS at h ⊢
    rw [if_neg (by omega), if_neg (by omega), if_pos k] at h ⊢
    unfold renameS at h ⊢
    split
    · rename_i hn
      rw [if_pos hn] at h; exact absurd rfl h
    · rename_i hn
      rw [if_neg hn] at h
      rw [hF]
      cases hl : lookF Q.F y.a with
      | none => rw [hl] at h; exact absurd rfl h
      | some f => simp only; rw [ha]
  · unfold doS at h ⊢
    rw [if_neg (by omega), if_neg (by omega), if_neg (by omega), if_pos k] at h ⊢
    unfold deleteS at h ⊢
    rw [hF]
    cases hl : lookF Q.F y.a with
    | none => rw [hl] at h; exact absurd rfl h
    | some f => simp only; rw [if_pos hb, ha]
theorem burn2 {Q : VZ} {y : Act5} {t : Nat} (hQ : Q.armed = false) (hk : 1 ≤ y.kind ∧ y.kind ≤ 4) (h : (doS Q y).2 ≠ 31) (ht : 2 ≤ t) : doS (fused Q t) y = (fused (doS Q y).1 (t - 1), (doS Q y).2) ∧ (doS Q y).1.armed = false := by
  have ha := act_f2 Q t ht
  have hb : ¬ (brkZ (actZ (fused Q t)) = true) := by rw [ha, brk_f2 Q (t - 1) (by omega)]; simp
  have h1 := act_un hQ
  have h2 : ¬ (brkZ (actZ Q) = true) := by rw [h1, brk_un hQ]; simp
  have hF : (fused Q t).F = Q.F := rfl
  rcases (by omega : y.kind = 1 ∨ y.kind = 2 ∨ y.kind = 3 ∨ y.kind = 4) with k | k | k | k
  · unfold doS at h ⊢
    simp only [if_pos k] at h ⊢
    unfold appendS at h ⊢
    by_cases hn : nameB y.a = false
    · rw [if_pos hn] at h; exact absurd rfl h
    · simp only [if_neg hn, if_neg hb, if_neg h2]
      by_cases hf : fullZ Q y.a y.bs.length
      · rw [if_pos ((full_f Q t _ _).2 hf), if_pos hf, ha, h1]
        exact ⟨rfl, hQ⟩
      · rw [if_neg (fun e => hf ((full_f Q t _ _).1 e)), if_neg hf, ha, h1, hF]
        exact ⟨rfl, hQ⟩
  · have k1 : ¬ y.kind = 1 := by omega
    unfold doS at h ⊢
    simp only [if_neg k1, if_pos k] at h ⊢
    unfold syncS at h ⊢
    rw [hF]
    cases hl : lookF Q.F y.a with
    | none => rw [hl] at h; exact absurd rfl h
    | some f =>
      simp only [if_neg hb, if_neg h2]
      rw [ha, h1]
      exact ⟨rfl, hQ⟩
  · have k1 : ¬ y.kind = 1 := by omega
    have k2 : ¬ y.kind = 2 := by omega
    unfold doS at h ⊢
    simp only [if_neg k1, if_neg k2, if_pos k] at h ⊢
    unfold renameS at h ⊢
    by_cases hn : nameB y.z = false
    · rw [if_pos hn] at h; exact absurd rfl h
    · simp only [if_neg hn] at h ⊢
      rw [hF]
      cases hl : lookF Q.F y.a with
      | none => rw [hl] at h; exact absurd rfl h
      | some f =>
        simp only [if_neg hb, if_neg h2]
        rw [ha, h1]
        exact ⟨rfl, hQ⟩
  · have k1 : ¬ y.kind = 1 := by omega
    have k2 : ¬ y.kind = 2 := by omega
    have k3 : ¬ y.kind = 3 := by omega
    unfold doS at h ⊢
    simp only [if_neg k1, if_neg k2, if_neg k3, if_pos k] at h ⊢
    unfold deleteS at h ⊢
    rw [hF]
    cases hl : lookF Q.F y.a with
    | none => rw [hl] at h; exact absurd rfl h
    | some f =>
      simp only [if_neg hb, if_neg h2]
      rw [ha, h1]
      exact ⟨rfl, hQ⟩
/-- Two vaults, of whom one acts. -/
theorem two_left {w w' : World} {B C a b : Nat} {V V' U : VZ} (h : VRep w B a V) (k : VRep w C b U) (ap : ∀ i, Foot a V i → ¬ Foot b U i) (l : Left w w' B a V V') : VRep w' C b U ∧ ∀ i, Foot a V' i → ¬ Foot b U i :=
  ⟨k.fr l.fr fun i hi hS => ap i hS hi, fun i hi hu => by
    rcases l.foot i hi with h1 | h1
    · exact ap i h1 hu
    · have := (k.foot_lt hu).1; omega⟩
theorem look_norm {V U : VZ} (h : (normZ V).F = (normZ U).F) (s : ByteArray) : (lkF V.F s).bs = (lkF U.F s).bs := by
  have h1 := norm_lk V.F s
  have h2 := norm_lk U.F s
  have e : V.F.map normF = U.F.map normF := h
  rw [e] at h1
  have h3 := congrArg FZ.bs (h1.symm.trans h2)
  exact h3
theorem names_norm {V U : VZ} (h : (normZ V).F = (normZ U).F) : namesF V.F = namesF U.F := by
  have e : V.F.map normF = U.F.map normF := h
  have := congrArg (List.map FZ.name) e
  rw [List.map_map, List.map_map] at this
  exact this
set_option maxRecDepth 100000 in
set_option maxHeartbeats 16000000 in
theorem burnt_walk (t : Int) (A : Option Addr) (n c : Nat) (L : List Act5) (w : World) (hA : Row w A (cellsA L)) (hg : ∀ y ∈ L, OkAct w w.heap.size y) (hn : n = L.length) (hn2 : n ≤ 9223372036854775807) (hnc : n ≤ c) (ht1 : -9223372036854775808 ≤ t) (ht2 : t ≤ 9223372036854775807) :
    Calls Try.prog 5 #[.int .i64 t, .slice A n c] w fun e w' => e = .returned (.bool true) ∧ Below w.heap.size w w' := by
  have HA := Lib.hid hA
  have HG := Lib.hid hg
  have HN := Lib.hid hn
  have HT1 := Lib.hid ht1
  have HT2 := Lib.hid ht2
  clear hA hg hn ht1 ht2
  go_enter Try.func5, Try.ntmps5
  go_upto_region 2 with (go_at_call 9; refine (newG_any 5000 w (by omega)).mono ?_; rintro e w1 ⟨mb, a, rfl, hv, hb⟩; have HV1 := Lib.hid hv; have HB1 := Lib.hid hb; clear hv hb)
  go_upto_region 5 with (go_at_call 9; refine (newG_any 5000 w1 (by omega)).mono ?_; rintro e w2 ⟨ub, b, rfl, hv, hb⟩; have HU2 := Lib.hid hv; have HB2 := Lib.hid hb; clear hv hb)
  have HV2 := Lib.hid (HV1.out.below HB2.out)
  have HBW2 := Lib.hid (HB1.out.trans (HB2.out.mono HB1.out.size))
  have HAP2 := Lib.hid (show ∀ i, Foot a (newZ 5000 mb) i → ¬ Foot b (newZ 5000 ub) i from fun i h1 h2 => by
    have a1 := (HV1.out.foot_lt h1).1
    have a2 := (HU2.out.foot_lt h2).2
    omega)
  by_cases hbad : t < 1 ∨ 80 < t
  · have HAL := Lib.hid (alive_any w2)
    rcases hbad with hb1 | hb1
    · have k1 : decide (t < 1) = true := by simp; omega
      by_cases hneg : t < 0
      · have k2 : decide (0 ≤ t) = false := by simp; omega
        clear hb1 HA HG HN hn2 hnc
        go_wp2_with (first
          | (go_at_call 11; refine HAL.out.mono ?_; rintro e w3 ⟨rfl, hb⟩; have HB3 := Lib.hid hb; clear hb)
          | (go_at_call 25; refine (arm_any a (newZ 5000 mb) t w3 (HV2.out.below HB3.out).core HT2.out).mono ?_; rintro e w4 hq; obtain ⟨rfl, rfl⟩ : e = .returned (.int .i64 1) ∧ w3 = w4 := (by rcases hq with ⟨_, h1, h2⟩ | ⟨q, h1, _⟩; exact ⟨h1, h2⟩; exact absurd hneg (by omega)); clear hq))
        go_ret
        exact ⟨rfl, HBW2.out.trans (HB3.out.mono HBW2.out.size)⟩
      · have k2 : decide (0 ≤ t) = true := by simp; omega
        clear hb1 HA HG HN hn2 hnc
        go_wp2_with (first
          | (go_at_call 11; refine HAL.out.mono ?_; rintro e w3 ⟨rfl, hb⟩; have HB3 := Lib.hid hb; have HV3 := Lib.hid (HV2.out.below hb); clear hb)
          | (go_at_call 25; refine (armP_any w.heap.size a (newZ 5000 mb) t w3 HV3.out HT2.out).mono ?_; rintro e w4 ⟨V4, he, _, hl⟩; obtain rfl : e = .returned (.int .i64 0) := (by rw [he]; unfold armS; rw [if_neg (by omega)]); have HB4 := Lib.hid (ActP.below HV3.out hl (Nat.le_trans HBW2.out.size HB3.out.size)); clear he hl))
        go_ret
        exact ⟨rfl, (HBW2.out.trans (HB3.out.mono HBW2.out.size)).trans HB4.out⟩
    · have k1 : decide (t < 1) = false := by simp; omega
      have k3 : decide (80 < t) = true := by simp; omega
      have k2 : decide (0 ≤ t) = true := by simp; omega
      have hneg : ¬ t < 0 := by omega
      clear hb1 HA HG HN hn2 hnc
      go_wp2_with (first
        | (go_at_call 11; refine HAL.out.mono ?_; rintro e w3 ⟨rfl, hb⟩; have HB3 := Lib.hid hb; have HV3 := Lib.hid (HV2.out.below hb); clear hb)
        | (go_at_call 25; refine (armP_any w.heap.size a (newZ 5000 mb) t w3 HV3.out HT2.out).mono ?_; rintro e w4 ⟨V4, he, _, hl⟩; obtain rfl : e = .returned (.int .i64 0) := (by rw [he]; unfold armS; rw [if_neg (by omega)]); have HB4 := Lib.hid (ActP.below HV3.out hl (Nat.le_trans HBW2.out.size HB3.out.size)); clear he hl))
      go_ret
      exact ⟨rfl, (HBW2.out.trans (HB3.out.mono HBW2.out.size)).trans HB4.out⟩
  obtain ⟨q, rfl⟩ : ∃ q : Nat, t = (q : Int) := ⟨t.toNat, by omega⟩
  have hq1 : 1 ≤ q := by omega
  have hq8 : q ≤ 80 := by omega
  have k1 : decide ((q : Int) < 1) = false := by simp; omega
  have k2 : decide (80 < (q : Int)) = false := by simp; omega
  have HQ1 := Lib.hid hq1
  have HQ8 := Lib.hid hq8
  have HAR := Lib.hid (armP_any w.heap.size a (newZ 5000 mb) q w2 HV2.out (by omega))
  clear hbad
  go_upto_region 8 with (go_at_call 25; refine HAR.out.mono ?_; rintro e w3 ⟨V3, rfl, hn3, hl3⟩; have HN3 := Lib.hid hn3; have HL3 := Lib.hid hl3; clear hn3 hl3)
  obtain ⟨HU3', HAP3'⟩ := two_left HV2.out HU2.out HAP2.out HL3.out
  have HU3 := Lib.hid HU3'
  have HAP3 := Lib.hid HAP3'
  have HBW3 := Lib.hid (HBW2.out.trans (ActP.below HV2.out HL3.out HBW2.out.size))
  have HN3' := Lib.hid (show normZ V3 = fused (normZ (newZ 5000 ub)) q from by
    rw [HN3.out]; unfold armS; rw [if_neg (by omega)]; rfl)
  clear HU3' HAP3' k1 k2
  have HBU := Lib.hid HB1.out.size
  go_wp2_with fail
  go_loopw [9, 10] (fun v9 v10 wr => ∃ (k d : Nat) (V U : VZ), k ≤ n ∧ k ≤ 80 ∧ v10 = .int .i64 k ∧ v9 = .int .i64 d ∧ d ≤ k ∧ Hid (VRep wr w.heap.size a V) ∧ Hid (VRep wr w1.heap.size b U) ∧ Hid (∀ i, Foot a V i → ¬ Foot b U i) ∧ Hid ((normZ U).armed = false ∧ normZ V = fused (normZ U) (q - d)) ∧ Hid (Below w.heap.size w wr)) (fun _ i _ => 80 - (intOf i).toNat)
  case atStart => exact ⟨0, 0, V3, newZ 5000 ub, by omega, by omega, rfl, rfl, by omega, Lib.hid HL3.out.rep, HU3, HAP3, Lib.hid ⟨rfl, HN3'.out⟩, HBW3⟩
  case round =>
    clear HV1 HB1 HU2 HB2 HV2 HBW2 HAP2 HAR HN3 HL3 HU3 HAP3 HBW3 HN3'
    obtain ⟨k, d, V, U, hk, hk8, rfl, rfl, hd, HV, HU, HAP, HNM, HB⟩ := hrel
    obtain ⟨bb, hbb⟩ : ∃ b, b = decide (k < n ∧ k < 80) := ⟨_, rfl⟩
    have Hb := Lib.hid hbb
    clear hbb
    go_upto_region 10 with fail
    go_cut [69] (fun sl wx => sl = .bool bb ∧ wx = wr)
    case first =>
      have e := Hb.out
      by_cases h1 : k < n
      · have h1z : (k : Int) < (n : Int) := by omega
        by_cases h2 : k < 80
        · have h2z : (k : Int) < 80 := by omega
          rw [decide_eq_true (And.intro h1 h2)] at e
          clear h1 h2
          go_wp2_with fail
          go_meet
          case rel => exact ⟨by rw [e], rfl⟩
        · have h2z : ¬ (k : Int) < 80 := by omega
          rw [decide_eq_false (fun h => h2 h.2)] at e
          clear h1 h2
          go_wp2_with fail
          go_meet
          case rel => exact ⟨by rw [e], rfl⟩
      · have h1z : ¬ (k : Int) < (n : Int) := by omega
        rw [decide_eq_false (fun h => h1 h.1)] at e
        clear h1
        go_wp2_with fail
        go_meet
        case rel => exact ⟨by rw [e], rfl⟩
    case rest =>
    obtain ⟨rfl, rfl⟩ := hcut
    cases bb with
    | true =>
      have hkk : k < n ∧ k < 80 := of_decide_eq_true Hb.out.symm
      have hkz : k < L.length := by have := HN.out; omega
      obtain ⟨sb, off, rfl, c0, c1, c2, c3, c4⟩ := act_cells (HA.out.keep (Nat.le_refl _) HB.out) hkz
      obtain ⟨y, hy⟩ : ∃ y, y = L[k] := ⟨_, rfl⟩
      rw [← hy] at c0 c1 c2 c3 c4
      have HY := Lib.hid (show OkAct w w.heap.size y from HG.out y (by rw [hy]; exact List.getElem_mem _))
      obtain ⟨w4, hw4⟩ : ∃ w4, w4 = wc.alloc (.cells #[.int .i64 y.kind, .int .i64 y.n, .string y.a, .string y.z, .slice y.A y.nb y.cb] 33) := ⟨_, rfl⟩
      have hb4 : Below wc.heap.size wc w4 := by rw [hw4]; exact bpush (Below.refl _ _) _
      have HK4 := Lib.hid (show Blk w4 wc.heap.size 33 #[.int .i64 y.kind, .int .i64 y.n, .string y.a, .string y.z, .slice y.A y.nb y.cb] by rw [hw4]; exact Blk.new _ _ _)
      have HB4 := Lib.hid hb4
      obtain ⟨g, hgg⟩ : ∃ g, g = wc.heap.size := ⟨_, rfl⟩
      have HGG := Lib.hid hgg
      have HW4 := Lib.hid hw4
      have hk0 : (0 : Int) ≤ (k : Int) := by omega
      have hk1 : (k : Int) < (n : Int) := by omega
      obtain ⟨qf, hqf⟩ : ∃ qf, qf = (decide (y.a.size ≤ 200) && decide (y.z.size ≤ 200) && decide (y.nb ≤ 200)) := ⟨_, rfl⟩
      have HQF := Lib.hid hqf
      clear hy hb4 hw4 hgg hqf Hb
      go_upto_region 13 with fail
      rw [← HW4.out]
      rw [← HGG.out] at HK4 ⊢
      clear c0 c1 c2 c3 c4
      have HCP := Lib.hid (fun (W : World) (hb : W.heap[g]? = w4.heap[g]?) => (show W.cell? ⟨g, 0, none⟩ = some (.int .i64 y.kind) ∧ W.cell? ⟨g, 1, none⟩ = some (.int .i64 y.n) ∧ W.cell? ⟨g, 2, none⟩ = some (.string y.a) ∧ W.cell? ⟨g, 3, none⟩ = some (.string y.z) ∧ W.cell? ⟨g, 4, none⟩ = some (.slice y.A y.nb y.cb) from by
        have h : Blk W g 33 #[.int .i64 y.kind, .int .i64 y.n, .string y.a, .string y.z, .slice y.A y.nb y.cb] := hb.trans HK4.out
        exact ⟨by simpa using h.cell 0, by simpa using h.cell 1, by simpa using h.cell 2, by simpa using h.cell 3, by simpa using h.cell 4⟩))
      have hgl4 : g < w4.heap.size := HK4.out.lt
      have HGL := Lib.hid hgl4
      obtain ⟨b0, b1, b2, b3, b4⟩ := HCP.out _ rfl
      clear hgl4
      go_upto_region 14 with (go_at_call 12; refine (fits_any y.kind y.n y.a y.z y.A y.nb y.cb qf w4 HQF.out).mono ?_; rintro e w5 ⟨rfl, hb⟩; have HB5 := Lib.hid hb; clear hb)
      clear b0 b1 b2 b3 b4
      have HBX5 := Lib.hid (bthen HB4.out HB5.out)
      have HBW5 := Lib.hid (HB.out.trans (HBX5.out.mono HB.out.size))
      have HV5 := Lib.hid (HV.out.below HBX5.out)
      have HU5 := Lib.hid (HU.out.below HBX5.out)
      have HG5 := Lib.hid (show w5.heap[g]? = w4.heap[g]? from HB5.out.block _ HGL.out)
      obtain ⟨b0, b1, b2, b3, b4⟩ := HCP.out _ HG5.out
      cases qf with
      | false =>
        go_wp2_with fail
        go_roundw
        case rel => exact ⟨k + 1, d, V, U, by omega, by omega, by go_num, rfl, by omega, HV5, HU5, HAP, HNM, HBW5⟩
        case measure => simp [intOf]; omega
      | true =>
      by_cases hk3 : y.kind < 1
      · go_wp2_with fail
        go_roundw
        case rel => exact ⟨k + 1, d, V, U, by omega, by omega, by go_num, rfl, by omega, HV5, HU5, HAP, HNM, HBW5⟩
        case measure => simp [intOf]; omega
      by_cases hk4 : 4 < y.kind
      · go_wp2_with fail
        go_roundw
        case rel => exact ⟨k + 1, d, V, U, by omega, by omega, by go_num, rfl, by omega, HV5, HU5, HAP, HNM, HBW5⟩
        case measure => simp [intOf]; omega
      have hk34 : 1 ≤ y.kind ∧ y.kind ≤ 4 := by omega
      have HK34 := Lib.hid hk34
      have k3 : ¬ y.kind < 1 := hk3
      have k4 : ¬ 4 < y.kind := hk4
      have HCY := Lib.hid (copy_any w1.heap.size b U w5 HU5.out)
      clear hk34
      go_upto_region 16 with (go_at_call 17; refine HCY.out.mono ?_; rintro e w6 ⟨ax, Vx, rfl, hnx, hvx, hb⟩; rw [copy_same HU5.out] at hnx; have HNX := Lib.hid hnx; have HVX := Lib.hid hvx; have HB6 := Lib.hid hb; clear hnx hvx hb)
      clear b0 b1 b2 b3 b4 hk3 hk4 k3 k4
      have HG6 := Lib.hid (show w6.heap[g]? = w4.heap[g]? from (HB6.out.block _ (Nat.lt_of_lt_of_le HGL.out HB5.out.size)).trans HG5.out)
      obtain ⟨b0, b1, b2, b3, b4⟩ := HCP.out _ HG6.out
      have HBW6 := Lib.hid (HBW5.out.trans (HB6.out.mono HBW5.out.size))
      obtain ⟨X, hX⟩ : ∃ X, X = doS (normZ U) y := ⟨_, rfl⟩
      have HXD := Lib.hid hX
      have hdx := do_any w5.heap.size ax Vx y w6 HVX.out ((HY.out.keep HBW6.out).lift HBW5.out.size) HB6.out.size
      rw [HNX.out, ← hX] at hdx
      have HDX := Lib.hid hdx
      clear hX hdx
      obtain ⟨ec, hec⟩ : ∃ ec, ec = X.2 := ⟨_, rfl⟩
      have HEC := Lib.hid hec
      clear hec
      by_cases he : ec = 31
      · subst he
        go_wp2_with (go_at_call 13; refine HDX.out.mono ?_; rintro e w7 ⟨V7, rfl, _, hl7⟩; rw [← HEC.out]; have HB7 := Lib.hid (HB6.out.trans (ActP.below HVX.out hl7 HB6.out.size)); clear hl7)
        go_roundw
        case rel => exact ⟨k + 1, d, V, U, by omega, by omega, by go_num, rfl, by omega, Lib.hid (HV5.out.below HB7.out), Lib.hid (HU5.out.below HB7.out), HAP, HNM, Lib.hid (HBW5.out.trans (HB7.out.mono HBW5.out.size))⟩
        case measure => simp [intOf]; omega
      have he31 : (ec == 31) = false := by simpa using he
      have HNE := Lib.hid (show (doS (normZ U) y).2 ≠ 31 by rw [← HXD.out, ← HEC.out]; exact he)
      clear he
      go_upto_region 18 with (go_at_call 13; refine HDX.out.mono ?_; rintro e w7 ⟨V7, rfl, _, hl7⟩; rw [← HEC.out]; have HB7 := Lib.hid (HB6.out.trans (ActP.below HVX.out hl7 HB6.out.size)); clear hl7)
      clear b0 b1 b2 b3 b4
      have HV7 := Lib.hid (HV5.out.below HB7.out)
      have HU7 := Lib.hid (HU5.out.below HB7.out)
      have HBW7 := Lib.hid (HBW5.out.trans (HB7.out.mono HBW5.out.size))
      have HG7 := Lib.hid (show w7.heap[g]? = w4.heap[g]? from (HB7.out.block _ (Nat.lt_of_lt_of_le HGL.out HB5.out.size)).trans HG5.out)
      obtain ⟨b0, b1, b2, b3, b4⟩ := HCP.out _ HG7.out
      have HGF := Lib.hid (show ¬ Foot a V g ∧ ¬ Foot b U g from ⟨fun h => by have h1 := (HV.out.foot_lt h).1; have h2 := HGG.out; omega, fun h => by have h1 := (HU.out.foot_lt h).1; have h2 := HGG.out; omega⟩)
      have hdv := do_any w.heap.size a V y w7 HV7.out (HY.out.keep HBW7.out) HBW7.out.size
      rw [HNM.out.2] at hdv
      have hd80 : d ≤ 80 := by omega
      by_cases hq : q - d ≤ 1
      · rw [burn0 HNM.out.1 HK34.out HNE.out hq] at hdv
        have HDV := Lib.hid hdv
        have hcmp : (q : Int) ≤ ((d : Int) + 1) := by omega
        have hcmp2 : decide ((q : Int) ≤ ((d : Int) + 1)) = true := by simp; omega
        clear hdv
        go_upto_region 20 with (go_at_call 13; refine HDV.out.mono ?_; rintro e w8 ⟨V8, rfl, hn8, hl8⟩; have HN8 := Lib.hid hn8; have HL8 := Lib.hid hl8; clear hn8 hl8)
        obtain ⟨hu8, hap8⟩ := two_left HV7.out HU7.out HAP.out HL8.out
        have HU8 := Lib.hid hu8
        have HAP8 := Lib.hid hap8
        have HBW8 := Lib.hid (HBW7.out.trans (ActP.below HV7.out HL8.out HBW7.out.size))
        have HBR := Lib.hid (broken_norm HL8.out.rep HN8.out (q := true) rfl)
        clear hu8 hap8 b0 b1 b2 b3 b4
        go_wp2_with (go_at_call 26; refine HBR.out.mono ?_; rintro e w9 ⟨rfl, hb⟩; have HB9 := Lib.hid hb; clear hb)
        go_roundw
        case rel => exact ⟨k + 1, d + 1, V8, U, by omega, by omega, by go_num, by go_num, by omega, Lib.hid (HL8.out.rep.below HB9.out), Lib.hid (HU8.out.below HB9.out), HAP8, Lib.hid ⟨HNM.out.1, by rw [HN8.out, show q - (d + 1) = 0 by omega]⟩, Lib.hid (HBW8.out.trans (HB9.out.mono HBW8.out.size))⟩
        case measure => simp [intOf]; omega
      · obtain ⟨hb2, hx1⟩ := burn2 HNM.out.1 HK34.out HNE.out (show 2 ≤ q - d by omega)
        rw [hb2, ← HXD.out, ← HEC.out] at hdv
        rw [← HXD.out] at hx1
        have HX1 := Lib.hid hx1
        have HDV := Lib.hid hdv
        have hcmp : ¬ (q : Int) ≤ ((d : Int) + 1) := by omega
        have hcmp2 : decide ((q : Int) ≤ ((d : Int) + 1)) = false := by simp; omega
        clear hdv hb2 hx1
        go_upto_region 22 with (go_at_call 13; refine HDV.out.mono ?_; rintro e w8 ⟨V8, rfl, hn8, hl8⟩; have HN8 := Lib.hid hn8; have HL8 := Lib.hid hl8; clear hn8 hl8)
        obtain ⟨hu8, hap8⟩ := two_left HV7.out HU7.out HAP.out HL8.out
        have HU8 := Lib.hid hu8
        have HAP8 := Lib.hid hap8
        have HBW8 := Lib.hid (HBW7.out.trans (ActP.below HV7.out HL8.out HBW7.out.size))
        have HG8 := Lib.hid (show w8.heap[g]? = w4.heap[g]? from (HL8.out.fr.block _ (Nat.lt_of_lt_of_le HGL.out (Nat.le_trans HB5.out.size HB7.out.size)) HGF.out.1).trans HG7.out)
        clear hu8 hap8 b0 b1 b2 b3 b4
        obtain ⟨b0, b1, b2, b3, b4⟩ := HCP.out _ HG8.out
        have hdu := do_any w1.heap.size b U y w8 HU8.out ((HY.out.keep HBW8.out).lift HBU.out) (Nat.le_trans HU8.out.ba (Nat.le_of_lt HU8.out.core.la))
        rw [← HXD.out] at hdu
        have HDU := Lib.hid hdu
        clear hdu
        have hec2 : X.2 = ec := HEC.out.symm
        have HEC2 := Lib.hid hec2
        clear hec2
        go_wp2_with (first
          | (go_at_call 13; refine HDU.out.mono ?_; rintro e w9 ⟨U9, rfl, hn9, hl9⟩; rw [HEC2.out]; have HN9 := Lib.hid hn9; have HL9 := Lib.hid hl9; have HV9 := Lib.hid (two_left HU8.out HL8.out.rep (fun i h1 h2 => HAP8.out i h2 h1) hl9); clear hn9 hl9)
          | (go_at_call 26; refine (broken_norm HV9.out.1 HN8.out (q := false) (brk_f2 _ _ (by omega)).symm).mono ?_; rintro e w10 ⟨rfl, hb⟩; have HB10 := Lib.hid hb; clear hb))
        have HBW9 := Lib.hid (HBW8.out.trans (ActP.below (HU8.out.lower HBU.out) ⟨HL9.out.rep.lower HBU.out, HL9.out.fr, HL9.out.foot⟩ HBW8.out.size))
        go_roundw
        case rel => exact ⟨k + 1, d + 1, V8, U9, by omega, by omega, by go_num, by go_num, by omega, Lib.hid (HV9.out.1.below HB10.out), Lib.hid (HL9.out.rep.below HB10.out), Lib.hid (fun i h1 h2 => HV9.out.2 i h2 h1), Lib.hid ⟨by rw [HN9.out]; exact HX1.out, by rw [HN8.out, HN9.out, show q - (d + 1) = q - d - 1 by omega]⟩, Lib.hid (HBW9.out.trans (HB10.out.mono HBW9.out.size))⟩
        case measure => simp [intOf]; omega
    | false =>
    clear hk hk8 Hb HA HG HN hn2 hnc hd
    have HLV := Lib.hid (list_any w.heap.size a V _ HV.out)
    obtain ⟨nl, hnl⟩ : ∃ nl, nl = V.F.length := ⟨_, rfl⟩
    have HNL := Lib.hid hnl
    have hnl200 : nl ≤ 200 := by rw [hnl]; exact HV.out.len
    have hnf : (normZ V).F = (normZ U).F := by rw [HNM.out.2]; rfl
    have HNF := Lib.hid hnf
    have hul : U.F.length = nl := by
      have h := congrArg List.length hnf
      have e1 : (normZ V).F.length = V.F.length := List.length_map ..
      have e2 : (normZ U).F.length = U.F.length := List.length_map ..
      omega
    have HUL := Lib.hid hul
    clear hnl hnf hul
    go_upto_region 25 with (go_at_call 27; refine HLV.out.mono ?_; rintro e w3 ⟨D, kk, rfl, ho, hb⟩; rw [← HNL.out] at ho ⊢; have HO3 := Lib.hid ho; have HB3 := Lib.hid hb; clear ho hb)
    have HROW3 := Lib.hid (show Row w3 D (texts (namesF V.F)) ∧ nl ≤ kk from by
      obtain ⟨A', c', e, hrow, h, _⟩ := own_slice HO3.out
      cases e; exact ⟨hrow, h⟩)
    have HLU := Lib.hid (list_any w1.heap.size b U w3 (HU.out.below HB3.out))
    go_upto_region 27 with (first
      | (go_at_call 27; refine HLU.out.mono ?_; rintro e w4 ⟨D4, kk4, rfl, ho, hb⟩; have HB4 := Lib.hid hb; have HR4 := Lib.hid (show Row w4 D4 (texts (namesF V.F)) from (by rw [names_norm HNF.out]; obtain ⟨A9, c9, e, hrow, _⟩ := own_slice ho; cases e; exact hrow)); clear ho hb)
      | (go_at_call 28; refine (texts_any D D4 nl kk U.F.length kk4 (namesF V.F) (namesF V.F) w4 (HROW3.out.1.keep (Nat.le_refl _) HB4.out) HR4.out (by rw [HNL.out]; unfold namesF; rw [List.length_map]) (by rw [HUL.out, HNL.out]; unfold namesF; rw [List.length_map]) (by omega) (by rw [HUL.out]; omega) true ⟨fun _ => rfl, fun _ => rfl⟩).mono ?_; rintro e w5 ⟨rfl, hb⟩; have HB5 := Lib.hid (bthen HB4.out hb); clear hb))
    go_wp2_with fail
    have HB35 := Lib.hid (bthen HB3.out HB5.out)
    obtain ⟨wo, rfl⟩ : ∃ wo : World, wo = wc := ⟨_, rfl⟩
    go_loopw [16] (fun v16 wq => ∃ m : Nat, m ≤ nl ∧ v16 = .int .i64 m ∧ Hid (Below wo.heap.size wo wq) ∧ Hid (Below w3.heap.size w3 wq)) (fun i _ => nl - (intOf i).toNat)
    case atStart => exact ⟨0, by omega, rfl, HB35, HB5⟩
    case round =>
      obtain ⟨m, hm, rfl, HBQ, HB3Q⟩ := hrel
      have HVQ := Lib.hid (HV.out.below HBQ.out)
      have HUQ := Lib.hid (HU.out.below HBQ.out)
      by_cases hmj : m < nl
      · have hml : m < V.F.length := by have := HNL.out; omega
        obtain ⟨nb, nof, rfl, d0⟩ := text_cell (HROW3.out.1.keep (Nat.le_refl _) HB3Q.out) (show m < (namesF V.F).length by unfold namesF; rw [List.length_map]; exact hml)
        have hnk := HROW3.out.2
        obtain ⟨f, hf⟩ : ∃ f, f = V.F[m] := ⟨_, rfl⟩
        have hfm : f ∈ V.F := by rw [hf]; exact List.getElem_mem _
        have hfn : (namesF V.F)[m]'(by unfold namesF; rw [List.length_map]; exact hml) = f.name := by rw [hf]; simp [namesF]
        rw [hfn] at d0
        have hfs : f.name.size ≤ 9223372036854775807 := by have := HVQ.out.name f hfm; omega
        have HFS := Lib.hid hfs
        have HRD := Lib.hid (read_any w.heap.size a V f.name _ HVQ.out hfs)
        obtain ⟨qs, hqs⟩ : ∃ qs, qs = strOfNums (lkF V.F f.name).bs := ⟨_, rfl⟩
        have HQS := Lib.hid hqs
        have HD0 := Lib.hid d0
        have hm0 : (0 : Int) ≤ (m : Int) := by omega
        have hm1 : (m : Int) < (nl : Int) := by omega
        clear hf hfm hfn hqs hfs
        go_upto_region 31 with (go_at_call 20; refine HRD.out.mono ?_; rintro e w30 hq; obtain ⟨D2, n2, k2, rfl, ho2, hn2', hn3, hb10⟩ := hq; have HN2 := Lib.hid hn2'; have HO2 := Lib.hid ho2; have HB30 := Lib.hid hb10; clear ho2 hn2' hn3 hb10)
        have d1 := cell_on HB30.out HD0.out
        have HRU := Lib.hid (read_any w1.heap.size b U f.name w30 (HUQ.out.below HB30.out) HFS.out)
        clear d0
        go_upto_region 32 with (go_at_call 20; refine HRU.out.mono ?_; rintro e w31 hq; obtain ⟨D5, n5, k5, rfl, ho5, hn5', hn6, hb11⟩ := hq; have HN5 := Lib.hid hn5'; have HO5 := Lib.hid ho5; have HB31 := Lib.hid hb11; clear ho5 hn5' hn6 hb11)
        have hcv : Sem.run Try.prog (convert 31 9 (.slice D2 n2 k2)) w31 = .ok (.string qs) w31 := by
          obtain ⟨A9, c9, e, hrow, _⟩ := own_slice HO2.out
          cases e
          rw [HQS.out]; exact conv_bs (hrow.keep (Nat.le_refl _) HB31.out) HN2.out
        have hcu : Sem.run Try.prog (convert 31 9 (.slice D5 n5 k5)) w31 = .ok (.string qs) w31 := by
          obtain ⟨A9, c9, e, hrow, _⟩ := own_slice HO5.out
          cases e
          rw [HQS.out, look_norm HNF.out f.name]; exact conv_bs hrow HN5.out
        clear d1
        go_wp2_with fail
        go_roundw
        case rel => exact ⟨m + 1, by omega, by go_num, Lib.hid (bthen HBQ.out (bthen HB30.out HB31.out)), Lib.hid (bthen HB3Q.out (bthen HB30.out HB31.out))⟩
        case measure => simp [intOf]; omega
      · obtain rfl : m = nl := by omega
        have hmx : ¬ ((m : Int) < (m : Int)) := by omega
        go_wp2_with (go_at_call 11; refine (alive_any _).mono ?_; rintro e w40 ⟨rfl, hb⟩; have HB40 := Lib.hid (bthen HBQ.out hb); clear hb)
        go_ret
        exact ⟨rfl, HB.out.trans (HB40.out.mono HB.out.size)⟩
end Go.Proofs.Ytaahomohhagcoaa
