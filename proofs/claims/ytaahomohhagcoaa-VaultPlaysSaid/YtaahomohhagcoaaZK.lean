/- The walk of VaultPlays. -/
import Derived.Test.YtaahomohhagcoaaZJ
import Derived.Test.YtaahomohhagcoaaX
namespace Go.Proofs.Ytaahomohhagcoaa
open Go.RowKit Go.Maps Go.Shelf Go.Lib
set_option linter.unusedSimpArgs false
set_option linter.unusedVariables false
structure PlSt (w wr : World) (a mb : Nat) (V : VZ) (R : RV) : Prop where
  v : VRep wr w.heap.size a V
  r : RRep wr mb R
  i : RIs R (normZ V)
  ap : ∀ i, Foot a V i → ¬ RFoot mb R i
  lo : w.heap.size ≤ mb
  below : Below w.heap.size w wr
theorem PlSt.keep {w wr w' : World} {a mb : Nat} {V : VZ} {R : RV} (h : PlSt w wr a mb V R) (hb : Below wr.heap.size wr w') : PlSt w w' a mb V R :=
  ⟨h.v.below hb, h.r.below hb, h.i, h.ap, h.lo, h.below.trans (hb.mono h.below.size)⟩
theorem v_acts {w w' : World} {B a mb : Nat} {V V' : VZ} {R : RV} (k : RRep w mb R) (ap : ∀ i, Foot a V i → ¬ RFoot mb R i) (l : Left w w' B a V V') : RRep w' mb R ∧ ∀ i, Foot a V' i → ¬ RFoot mb R i :=
  ⟨k.fr l.fr fun i h1 h2 => ap i h2 h1, fun i h1 h2 => by
    rcases l.foot i h1 with h | h
    · exact ap i h h2
    · have := k.lt h2; omega⟩
theorem m_acts {w w' : World} {B a mb : Nat} {V : VZ} {R R' : RV} (hv : VRep w B a V) (ap : ∀ i, Foot a V i → ¬ RFoot mb R i) (f : Fr (fun i => i = mb) w w') (hx : ∀ i, RRows R' i → RRows R i ∨ w.heap.size ≤ i) : VRep w' B a V ∧ ∀ i, Foot a V i → ¬ RFoot mb R' i :=
  ⟨hv.fr f fun i h1 e => ap i h1 (.inl e), fun i h1 h2 => by
    rcases h2 with e | h2
    · exact ap i h1 (.inl e)
    · rcases hx i h2 with h | h
      · exact ap i h1 (.inr h)
      · have := (hv.foot_lt h1).1; omega⟩
set_option maxRecDepth 100000 in
set_option maxHeartbeats 32000000 in
theorem plays_walk (r : Int) (A : Option Addr) (n c : Nat) (L : List Act5) (w : World) (hA : Row w A (cellsA L)) (hg : ∀ x ∈ L, OkAct w w.heap.size x) (hn : n = L.length) (hn2 : n ≤ 9223372036854775807) (hnc : n ≤ c) (h1 : -9223372036854775808 ≤ r) (h2 : r ≤ 9223372036854775807) :
    Calls Try.prog 3 #[.int .i64 r, .slice A n c] w fun e w' => e = .returned (.bool true) ∧ Below w.heap.size w w' := by
  have HA := Lib.hid hA
  have HG := Lib.hid hg
  have HN := Lib.hid hn
  have HNW := Lib.hid (newP_any r w h1 h2)
  have HNR := Lib.hid (fun W => rnew_any r W h1 h2)
  clear hA hg hn
  by_cases hbad : r < 0 ∨ 16777216 < r
  · have HBAD := Lib.hid hbad
    clear HA HG HN hn2 hnc h1 h2 hbad
    go_enter Try.func3, Try.ntmps3
    go_wp2_with (first
      | (go_at_call 9; refine HNW.out.mono ?_; rintro e w1 hq; obtain ⟨rfl, rfl⟩ : e = .returned (.tuple #[.pointer none, .int .i64 1]) ∧ w = w1 := (by rcases hq with ⟨_, h1, h2⟩ | ⟨q, _, _, h1, h2, _⟩; exact ⟨h1, h2⟩; exact absurd HBAD.out (by omega)); clear hq)
      | (go_at_call 10; refine (HNR.out w).mono ?_; rintro e w1 hq; obtain ⟨rfl, rfl⟩ : e = .returned (.tuple #[.pointer none, .int .i64 1]) ∧ w = w1 := (by rcases hq with ⟨_, h1, h2⟩ | ⟨q, h1, h2, _⟩; exact ⟨h1, h2⟩; exact absurd HBAD.out (by omega)); clear hq)
      | (go_at_call 11; refine (alive_any w).mono ?_; rintro e w2 ⟨rfl, hb⟩; have HB := Lib.hid hb; clear hb))
    go_ret
    exact ⟨rfl, HB.out⟩
  obtain ⟨q, rfl⟩ : ∃ q : Nat, r = (q : Int) := ⟨r.toNat, by omega⟩
  have HQ2 := Lib.hid (show q ≤ 16777216 by omega)
  have HRN := Lib.hid (fun W => show Calls Try.prog 10 #[.int .i64 (q : Int)] W fun e w' => e = .returned (.tuple #[.pointer (some ⟨W.heap.size, 0, none⟩), .int .i64 0]) ∧ RRep w' W.heap.size (rnew q) ∧ Below W.heap.size W w' from (HNR.out W).mono fun e w' hq => by
    rcases hq with ⟨hb, _⟩ | ⟨x, hx, _, h3, h4, h5⟩
    · exact absurd hb hbad
    · obtain rfl : q = x := by omega
      exact ⟨h3, h4, h5⟩)
  clear hbad h1 h2 HNW HNR
  go_enter Try.func3, Try.ntmps3
  go_wp2_with (first
    | (go_at_call 9; refine (newG_any q w HQ2.out).mono ?_; rintro e w1 ⟨vb, a, rfl, hv, hb⟩; have HV1 := Lib.hid hv; have HB1 := Lib.hid hb; clear hv hb)
    | (go_at_call 10; refine (HRN.out w1).mono ?_; rintro e w2 ⟨rfl, hr, hb⟩; have HR2 := Lib.hid hr; have HB2 := Lib.hid hb; clear hr hb))
  have HS0 := Lib.hid (show PlSt w w2 a w1.heap.size (newZ q vb) (rnew q) from ⟨HV1.out.below HB2.out, HR2.out, ⟨rfl, rfl, rfl⟩, (fun i h1 h2 => by
    have h3 := (HV1.out.foot_lt h1).1
    rcases h2 with rfl | h2
    · exact Nat.lt_irrefl _ h3
    · rcases h2 with ⟨h4, _⟩ | ⟨f, hf, _⟩
      · exact h4 rfl
      · cases hf), HB1.out.size, HB1.out.trans (HB2.out.mono HB1.out.size)⟩)
  go_loopw [5, 7, 9] (fun v5 v7 v9 wr => ∃ (k a mb : Nat) (V : VZ) (R : RV), k ≤ n ∧ k ≤ 80 ∧ v9 = .int .i64 k ∧ v5 = .pointer (some ⟨a, 0, none⟩) ∧ v7 = .pointer (some ⟨mb, 0, none⟩) ∧ Hid (PlSt w wr a mb V R)) (fun _ _ i _ => 80 - (intOf i).toNat)
  case atStart => exact ⟨0, a, w1.heap.size, _, _, by omega, by omega, rfl, rfl, rfl, HS0⟩
  case round =>
    clear HS0 HV1 HB1 HR2 HB2
    obtain ⟨k, a, mb, V, R, hk, hk8, rfl, rfl, rfl, HS⟩ := hrel
    obtain ⟨bb, hbb⟩ : ∃ b, b = decide (k < n ∧ k < 80) := ⟨_, rfl⟩
    have Hb := Lib.hid hbb
    clear hbb
    go_upto_region 6 with fail
    go_cut [51] (fun sl wx => sl = .bool bb ∧ wx = wr)
    case first =>
      have e := Hb.out
      by_cases h1 : k < n
      · have h1z : (k : Int) < (n : Int) := by omega
        by_cases h2 : k < 80
        · have h2z : (k : Int) < 80 := by omega
          rw [decide_eq_true (And.intro h1 h2)] at e
          clear h1 h2
          go_wp2_with fail
          go_meet
          case rel => exact ⟨by rw [e], rfl⟩
        · have h2z : ¬ (k : Int) < 80 := by omega
          rw [decide_eq_false (fun h => h2 h.2)] at e
          clear h1 h2
          go_wp2_with fail
          go_meet
          case rel => exact ⟨by rw [e], rfl⟩
      · have h1z : ¬ (k : Int) < (n : Int) := by omega
        rw [decide_eq_false (fun h => h1 h.1)] at e
        clear h1
        go_wp2_with fail
        go_meet
        case rel => exact ⟨by rw [e], rfl⟩
    case rest =>
    obtain ⟨rfl, rfl⟩ := hcut
    cases bb with
    | true =>
      have hkk : k < n ∧ k < 80 := of_decide_eq_true Hb.out.symm
      have hkz : k < L.length := by have := HN.out; omega
      obtain ⟨sb, off, rfl, c0, c1, c2, c3, c4⟩ := act_cells (HA.out.keep (Nat.le_refl _) HS.out.below) hkz
      obtain ⟨x, hx⟩ : ∃ x, x = L[k] := ⟨_, rfl⟩
      rw [← hx] at c0 c1 c2 c3 c4
      have HXO := Lib.hid (show OkAct w w.heap.size x from HG.out x (by rw [hx]; exact List.getElem_mem _))
      obtain ⟨w4, hw4⟩ : ∃ w4, w4 = wc.alloc (.cells #[.int .i64 x.kind, .int .i64 x.n, .string x.a, .string x.z, .slice x.A x.nb x.cb] 33) := ⟨_, rfl⟩
      have hb4 : Below wc.heap.size wc w4 := by rw [hw4]; exact bpush (Below.refl _ _) _
      have HK4 := Lib.hid (show Blk w4 wc.heap.size 33 #[.int .i64 x.kind, .int .i64 x.n, .string x.a, .string x.z, .slice x.A x.nb x.cb] by rw [hw4]; exact Blk.new _ _ _)
      have HB4 := Lib.hid hb4
      obtain ⟨g, hgg⟩ : ∃ g, g = wc.heap.size := ⟨_, rfl⟩
      have HGG := Lib.hid hgg
      have HW4 := Lib.hid hw4
      have hk0 : (0 : Int) ≤ (k : Int) := by omega
      have hk1 : (k : Int) < (n : Int) := by omega
      obtain ⟨qf, hqf⟩ : ∃ qf, qf = (decide (x.a.size ≤ 200) && decide (x.z.size ≤ 200) && decide (x.nb ≤ 200)) := ⟨_, rfl⟩
      have HQF := Lib.hid hqf
      clear hx hb4 hw4 hgg hqf Hb
      go_upto_region 9 with fail
      rw [← HW4.out]
      rw [← HGG.out] at HK4 ⊢
      clear c0 c1 c2 c3 c4
      have b0 : w4.cell? ⟨g, 0, none⟩ = some (.int .i64 x.kind) := by simpa using HK4.out.cell 0
      have b1 : w4.cell? ⟨g, 1, none⟩ = some (.int .i64 x.n) := by simpa using HK4.out.cell 1
      have b2 : w4.cell? ⟨g, 2, none⟩ = some (.string x.a) := by simpa using HK4.out.cell 2
      have b3 : w4.cell? ⟨g, 3, none⟩ = some (.string x.z) := by simpa using HK4.out.cell 3
      have b4 : w4.cell? ⟨g, 4, none⟩ = some (.slice x.A x.nb x.cb) := by simpa using HK4.out.cell 4
      go_upto_region 10 with (go_at_call 12; refine (fits_any x.kind x.n x.a x.z x.A x.nb x.cb qf w4 HQF.out).mono ?_; rintro e w5 ⟨rfl, hb⟩; have HB5 := Lib.hid hb; clear hb)
      clear b0 b1 b2 b3 b4
      have HS5 := Lib.hid (HS.out.keep (bthen HB4.out HB5.out))
      have HK5 := Lib.hid (show Blk w5 g 33 #[.int .i64 x.kind, .int .i64 x.n, .string x.a, .string x.z, .slice x.A x.nb x.cb] from (HB5.out.block _ HK4.out.lt).trans HK4.out)
      cases qf with
      | false =>
        go_wp2_with fail
        go_roundw
        case rel => exact ⟨k + 1, a, mb, V, R, by omega, by omega, by go_num, rfl, rfl, HS5⟩
        case measure => simp [intOf]; omega
      | true =>
      go_upto_region 11 with fail
      have HGF := Lib.hid (show ¬ Foot a V g ∧ ¬ g = mb from ⟨fun h => by have h1 := (HS.out.v.foot_lt h).1; have h2 := HGG.out; omega, fun h => by have h1 := HS.out.r.lt (.inl rfl); have h2 := HGG.out; omega⟩)
      obtain ⟨ec, hec⟩ : ∃ ec, ec = (doS (normZ V) x).2 := ⟨_, rfl⟩
      have HX2 := Lib.hid hec
      clear hec
      go_cut [68] (fun sl wx => sl = .bool false ∧ ∃ V' R', Hid (PlSt w wx a mb V' R') ∧ Hid (Blk wx g 33 #[.int .i64 x.kind, .int .i64 x.n, .string x.a, .string x.z, .slice x.A x.nb x.cb]))
      case first =>
        have HS5D := Lib.hid (show PlSt w w5.drew a mb V R from HS5.out.keep (below_drewN (Below.refl _ _) 1))
        have HXD := Lib.hid (HXO.out.keep HS5D.out.below)
        refine wp_region_held_drew (S := fun w' => Blk w' g 33 #[.int .i64 x.kind, .int .i64 x.n, .string x.a, .string x.z, .slice x.A x.nb x.cb]) (by kernel_rfl) (HK5.out.below (below_drewN (Below.refl _ _) 1) HK5.out.lt) ?_
        intro hHeld
        refine take_want (i := 0) (v := ?v0k0) rfl (by kernel_rfl) (by kernel_rfl) (by kernel_rfl) (fun _ _ _ h => h) (by rfl) ?y0k0 (by assumption) ?r0k0
        case y0k0 => (intro w hSw; have q0 := hSw.cell 0; have q1 := hSw.cell 1; have q2 := hSw.cell 2; have q3 := hSw.cell 3; have q4 := hSw.cell 4; simp at q0 q1 q2 q3 q4; go_simp; all_goals with_reducible rfl)
        (try simp only [Act.put, List.setIfInBounds_toArray, List.set_cons_zero, List.set_cons_succ])
        refine take_want (i := 1) (v := ?v1k0) rfl (by kernel_rfl) (by kernel_rfl) (by kernel_rfl) (fun _ _ _ h => h) (by rfl) ?y1k0 (by assumption) ?r1k0
        case y1k0 => (intro w hSw; go_simp; all_goals with_reducible rfl)
        (try simp only [Act.put, List.setIfInBounds_toArray, List.set_cons_zero, List.set_cons_succ])
        refine take_want (i := 3) (v := ?v3k0) rfl (by kernel_rfl) (by kernel_rfl) (by kernel_rfl) (fun _ _ _ h => h) (by rfl) ?y3k0 (by assumption) ?r3k0
        case y3k0 => (intro w hSw; have q0 := hSw.cell 0; have q1 := hSw.cell 1; have q2 := hSw.cell 2; have q3 := hSw.cell 3; have q4 := hSw.cell 4; simp at q0 q1 q2 q3 q4; go_simp; all_goals with_reducible rfl)
        (try simp only [Act.put, List.setIfInBounds_toArray, List.set_cons_zero, List.set_cons_succ])
        refine take_want (i := 4) (v := ?v4k0) rfl (by kernel_rfl) (by kernel_rfl) (by kernel_rfl) (fun _ _ _ h => h) (by rfl) ?y4k0 (by assumption) ?r4k0
        case y4k0 => (intro w hSw; go_simp; all_goals with_reducible rfl)
        (try simp only [Act.put, List.setIfInBounds_toArray, List.set_cons_zero, List.set_cons_succ])
        refine wpAnyH_ready (rs := [2]) (by kernel_rfl) (by simp) ?_
        refine AllReadyH.cons rfl (fun K hK => ?_) AllReadyH.nil
        · go_simp
          (go_at_call 13; refine (do_any w.heap.size a V x _ HS5D.out.v HXD.out HS5D.out.below.size).mono ?_; rintro e w6 ⟨V6, rfl, hn6, hl6⟩)
          rw [← HX2.out]
          obtain ⟨hr6, hap6⟩ := v_acts HS5D.out.r HS5D.out.ap hl6
          have hb6 := HS5D.out.below.trans (ActP.below HS5D.out.v hl6 HS5D.out.below.size)
          refine hK.out _ _ ((hl6.fr.block _ hHeld.lt HGF.out.1).trans hHeld) (fun hHeld => ?_)
          clear hK K
          (try simp only [Act.put, List.setIfInBounds_toArray, List.set_cons_zero, List.set_cons_succ])
          refine wpAnyH_ready (rs := [5]) (by kernel_rfl) (by simp) ?_
          refine AllReadyH.cons rfl (fun K hK => ?_) AllReadyH.nil
          go_simp
          (go_at_call 14; refine (doref_any w.heap.size mb R (normZ V) x _ hr6 HS5D.out.i HS5D.out.v.inv (HXO.out.keep hb6) hb6.size HS5D.out.lo).mono ?_; rintro e w7 ⟨R7, rfl, hi7, hr7, hf7, hx7⟩)
          rw [← HX2.out]
          obtain ⟨hv7, hap7⟩ := m_acts hl6.rep hap6 hf7 hx7
          have hb7 := hb6.trans (hf7.below hb6.size (fun i e => by have := HS5D.out.lo; omega))
          refine hK.out _ _ ((hf7.block _ hHeld.lt HGF.out.2).trans hHeld) (fun hHeld => ?_)
          clear hK K
          (try simp only [Act.put, List.setIfInBounds_toArray, List.set_cons_zero, List.set_cons_succ])
          have HPL := Lib.hid (show PlSt w w7 a mb V6 R7 from ⟨hv7, hr7, by rw [hn6]; exact hi7, hap7, HS5D.out.lo, hb7⟩)
          have HV7 := Lib.hid (show normZ V6 = (doS (normZ V) x).1 from hn6)
          refine take_want (i := 6) (v := .bool false) rfl (by kernel_rfl) (by kernel_rfl) (by kernel_rfl) (fun _ _ _ h => h) (by rfl) ?y6k1 (by assumption) ?r6k1
          case y6k1 => (intro w hSw; go_simp; all_goals first | rfl | simp)
          (try simp only [Act.put, List.setIfInBounds_toArray, List.set_cons_zero, List.set_cons_succ])
          refine wpAnyH_done (by kernel_rfl) ?_ _
          go_wp2_with fail
          go_meet
          case rel => exact ⟨rfl, V6, R7, HPL, Lib.hid hHeld⟩
      case rest =>
      obtain ⟨rfl, V7, R7, HP7, HK7⟩ := hcut
      have b0 : wc.cell? ⟨g, 0, none⟩ = some (.int .i64 x.kind) := by simpa using HK7.out.cell 0
      have b1 : wc.cell? ⟨g, 1, none⟩ = some (.int .i64 x.n) := by simpa using HK7.out.cell 1
      by_cases h6 : x.kind = 6
      · have h6b : (x.kind == 6) = true := by rw [h6]; rfl
        have h7b : (x.kind == 7) = false := by rw [h6]; rfl
        have h7n : ¬ x.kind = 7 := by omega
        have HCR := Lib.hid (crash_any w.heap.size a V7 x.n wc ((HP7.out.v)) HXO.out.lo HXO.out.hi)
        go_upto_region 14 with fail
        clear b0
        go_upto_region 15 with (go_at_call 15; refine HCR.out.mono ?_; rintro e w8 ⟨a8, V8, rfl, hn8, hv8, hb8⟩; have HN8 := Lib.hid hn8; have HV8 := Lib.hid hv8; have HB8 := Lib.hid hb8; clear hn8 hv8 hb8)
        clear b1
        have HK8 := Lib.hid (show Blk w8 g 33 #[.int .i64 x.kind, .int .i64 x.n, .string x.a, .string x.z, .slice x.A x.nb x.cb] from (HB8.out.block _ HK7.out.lt).trans HK7.out)
        have b1 : w8.cell? ⟨g, 1, none⟩ = some (.int .i64 x.n) := by simpa using HK8.out.cell 1
        have HRC := Lib.hid (rcrash_any x.n mb R7 (normZ V7) w8 (HP7.out.r.below HB8.out) HP7.out.i HP7.out.v.inv HXO.out.lo HXO.out.hi)
        go_upto_region 16 with (go_at_call 16; refine HRC.out.mono ?_; rintro e w9 ⟨m8, R8, rfl, hi8, hr8, hb9, hm8, hx8⟩; have HI8 := Lib.hid hi8; have HR8 := Lib.hid hr8; have HB9 := Lib.hid hb9; have HM8 := Lib.hid hm8; have HX8 := Lib.hid hx8; clear hi8 hr8 hb9 hm8 hx8)
        clear b1
        have HP9 := Lib.hid (show PlSt w w9 a8 m8 V8 R8 from ⟨(HV8.out.lower HP7.out.below.size).below HB9.out, HR8.out, by rw [HN8.out]; exact HI8.out, fun i h1 h2 => by
          have h3 := (HV8.out.foot_lt h1).1
          rcases h2 with h2 | h2
          · have := HM8.out; omega
          · have := HX8.out i h2; omega, by have h1 := HM8.out; have h2 := HB8.out.size; have h3 := HP7.out.below.size; omega, HP7.out.below.trans ((bthen HB8.out HB9.out).mono HP7.out.below.size)⟩)
        have HK9 := Lib.hid (show Blk w9 g 33 #[.int .i64 x.kind, .int .i64 x.n, .string x.a, .string x.z, .slice x.A x.nb x.cb] from (HB9.out.block _ HK8.out.lt).trans HK8.out)
        have b0 : w9.cell? ⟨g, 0, none⟩ = some (.int .i64 x.kind) := by simpa using HK9.out.cell 0
        clear HCR HRC HN8 HV8 HB8 HI8 HR8 HB9 HM8 HX8 HK8 HK7 HP7
        go_upto_region 19 with fail
        clear b0
        have HAL := Lib.hid (alike_any w.heap.size a8 m8 V8 R8 w9 HP9.out.v HP9.out.r HP9.out.i)
        have HP9b2 : w9.cell? ⟨g, 2, none⟩ = some (.string x.a) := by simpa using HK9.out.cell 2
        go_upto_region 20 with (go_at_call 19; refine HAL.out.mono ?_; rintro e w20 ⟨rfl, hb⟩; have HB20 := Lib.hid hb; clear hb)
        clear HP9b2
        have HP20 := Lib.hid (HP9.out.keep HB20.out)
        have HK20 := Lib.hid ((HB20.out.block _ HK9.out.lt).trans HK9.out)
        have c2 : w20.cell? ⟨g, 2, none⟩ = some (.string x.a) := by
          have h : Blk w20 g 33 #[.int .i64 x.kind, .int .i64 x.n, .string x.a, .string x.z, .slice x.A x.nb x.cb] := HK20.out
          simpa using h.cell 2
        have HRD := Lib.hid (read_any w.heap.size a8 V8 x.a w20 HP20.out.v HXO.out.a)
        go_upto_region 21 with (go_at_call 20; refine HRD.out.mono ?_; rintro e w21 hq; obtain ⟨D9, n9, k9, rfl, _, _, _, hb⟩ := hq; have HB21 := Lib.hid hb; clear hb)
        clear c2
        have HP21 := Lib.hid (HP20.out.keep HB21.out)
        have c2 : w21.cell? ⟨g, 2, none⟩ = some (.string x.a) := by
          have h : Blk w21 g 33 #[.int .i64 x.kind, .int .i64 x.n, .string x.a, .string x.z, .slice x.A x.nb x.cb] := (HB21.out.block _ (show g < w20.heap.size from lt_of_heap HK20.out)).trans HK20.out
          simpa using h.cell 2
        have HRR := Lib.hid (rread_any m8 R8 (normZ V8) x.a w21 HP21.out.r HP21.out.i HP21.out.v.inv)
        have hss : (lookF (normZ V8).F x.a).isSome = (lookF V8.F x.a).isSome := by
          show (lookF (V8.F.map normF) x.a).isSome = _
          rw [norm_look]; cases lookF V8.F x.a <;> rfl
        rw [hss] at HRR
        obtain ⟨bs9, hbs9⟩ : ∃ b, b = (lookF V8.F x.a).isSome := ⟨_, rfl⟩
        rw [← hbs9] at HRR ⊢
        clear hss hbs9
        go_wp2_with (go_at_call 21; refine HRR.out.mono ?_; rintro e w22 ⟨⟨v22, rfl⟩, hb⟩; have HB22 := Lib.hid hb; clear hb)
        go_roundw
        case rel => exact ⟨k + 1, a8, m8, V8, R8, by omega, by omega, by go_num, rfl, rfl, Lib.hid (HP21.out.keep HB22.out)⟩
        case measure => simp [intOf]; omega
      by_cases h7 : x.kind = 7
      · have h6b : (x.kind == 6) = false := by rw [h7]; rfl
        have h7b : (x.kind == 7) = true := by rw [h7]; rfl
        have HCR := Lib.hid (copy_any w.heap.size a V7 wc (HP7.out.v))
        have HCS := Lib.hid (copy_same HP7.out.v)
        have HL2 := Lib.hid (HP7.out.i.len2 HP7.out.v.inv)
        clear b1
        go_upto_region 16 with fail
        go_upto_region 17 with fail
        clear b0
        go_upto_region 18 with (go_at_call 17; refine HCR.out.mono ?_; rintro e w8 ⟨a8, V8, rfl, hn8, hv8, hb8⟩; have HN8 := Lib.hid hn8; have HV8 := Lib.hid hv8; have HB8 := Lib.hid hb8; clear hn8 hv8 hb8)
        have HK8 := Lib.hid (show Blk w8 g 33 #[.int .i64 x.kind, .int .i64 x.n, .string x.a, .string x.z, .slice x.A x.nb x.cb] from (HB8.out.block _ HK7.out.lt).trans HK7.out)
        have HRC := Lib.hid (rcopy_any mb R7 (normZ V7) w8 (HP7.out.r.below HB8.out) HP7.out.i HL2.out)
        go_upto_region 19 with (go_at_call 18; refine HRC.out.mono ?_; rintro e w9 ⟨m8, R8, rfl, hi8, hr8, hb9, hm8, hx8⟩; have HI8 := Lib.hid hi8; have HR8 := Lib.hid hr8; have HB9 := Lib.hid hb9; have HM8 := Lib.hid hm8; have HX8 := Lib.hid hx8; clear hi8 hr8 hb9 hm8 hx8)
        have HP9 := Lib.hid (show PlSt w w9 a8 m8 V8 R8 from ⟨(HV8.out.lower HP7.out.below.size).below HB9.out, HR8.out, by rw [HN8.out, HCS.out]; exact HI8.out, fun i h1 h2 => by
          have h3 := HV8.out.foot_lt h1
          rcases h2 with h2 | h2
          · have := HM8.out; omega
          · rcases HX8.out i h2 with h4 | h4
            · have := HP7.out.r.lt (.inr h4); omega
            · omega, by have h1 := HM8.out; have h2 := HB8.out.size; have h3 := HP7.out.below.size; omega, HP7.out.below.trans ((bthen HB8.out HB9.out).mono HP7.out.below.size)⟩)
        have HK9 := Lib.hid (show Blk w9 g 33 #[.int .i64 x.kind, .int .i64 x.n, .string x.a, .string x.z, .slice x.A x.nb x.cb] from (HB9.out.block _ HK8.out.lt).trans HK8.out)
        clear HCR HRC HN8 HV8 HB8 HI8 HR8 HB9 HM8 HX8 HK8 HK7 HP7 HCS HL2
        have HAL := Lib.hid (alike_any w.heap.size a8 m8 V8 R8 w9 HP9.out.v HP9.out.r HP9.out.i)
        have HP9b2 : w9.cell? ⟨g, 2, none⟩ = some (.string x.a) := by simpa using HK9.out.cell 2
        go_upto_region 20 with (go_at_call 19; refine HAL.out.mono ?_; rintro e w20 ⟨rfl, hb⟩; have HB20 := Lib.hid hb; clear hb)
        clear HP9b2
        have HP20 := Lib.hid (HP9.out.keep HB20.out)
        have HK20 := Lib.hid ((HB20.out.block _ HK9.out.lt).trans HK9.out)
        have c2 : w20.cell? ⟨g, 2, none⟩ = some (.string x.a) := by
          have h : Blk w20 g 33 #[.int .i64 x.kind, .int .i64 x.n, .string x.a, .string x.z, .slice x.A x.nb x.cb] := HK20.out
          simpa using h.cell 2
        have HRD := Lib.hid (read_any w.heap.size a8 V8 x.a w20 HP20.out.v HXO.out.a)
        go_upto_region 21 with (go_at_call 20; refine HRD.out.mono ?_; rintro e w21 hq; obtain ⟨D9, n9, k9, rfl, _, _, _, hb⟩ := hq; have HB21 := Lib.hid hb; clear hb)
        clear c2
        have HP21 := Lib.hid (HP20.out.keep HB21.out)
        have c2 : w21.cell? ⟨g, 2, none⟩ = some (.string x.a) := by
          have h : Blk w21 g 33 #[.int .i64 x.kind, .int .i64 x.n, .string x.a, .string x.z, .slice x.A x.nb x.cb] := (HB21.out.block _ (show g < w20.heap.size from lt_of_heap HK20.out)).trans HK20.out
          simpa using h.cell 2
        have HRR := Lib.hid (rread_any m8 R8 (normZ V8) x.a w21 HP21.out.r HP21.out.i HP21.out.v.inv)
        have hss : (lookF (normZ V8).F x.a).isSome = (lookF V8.F x.a).isSome := by
          show (lookF (V8.F.map normF) x.a).isSome = _
          rw [norm_look]; cases lookF V8.F x.a <;> rfl
        rw [hss] at HRR
        obtain ⟨bs9, hbs9⟩ : ∃ b, b = (lookF V8.F x.a).isSome := ⟨_, rfl⟩
        rw [← hbs9] at HRR ⊢
        clear hss hbs9
        go_wp2_with (go_at_call 21; refine HRR.out.mono ?_; rintro e w22 ⟨⟨v22, rfl⟩, hb⟩; have HB22 := Lib.hid hb; clear hb)
        go_roundw
        case rel => exact ⟨k + 1, a8, m8, V8, R8, by omega, by omega, by go_num, rfl, rfl, Lib.hid (HP21.out.keep HB22.out)⟩
        case measure => simp [intOf]; omega
      have h6b : (x.kind == 6) = false := by rw [beq_eq_false_iff_ne]; exact h6
      have h7b : (x.kind == 7) = false := by rw [beq_eq_false_iff_ne]; exact h7
      clear b1
      go_upto_region 16 with fail
      go_upto_region 19 with fail
      clear b0
      have HAL := Lib.hid (alike_any w.heap.size a mb V7 R7 wc HP7.out.v HP7.out.r HP7.out.i)
      have HP7b2 : wc.cell? ⟨g, 2, none⟩ = some (.string x.a) := by simpa using HK7.out.cell 2
      go_upto_region 20 with (go_at_call 19; refine HAL.out.mono ?_; rintro e w20 ⟨rfl, hb⟩; have HB20 := Lib.hid hb; clear hb)
      clear HP7b2
      have HP20 := Lib.hid (HP7.out.keep HB20.out)
      have HK20 := Lib.hid ((HB20.out.block _ HK7.out.lt).trans HK7.out)
      have c2 : w20.cell? ⟨g, 2, none⟩ = some (.string x.a) := by
        have h : Blk w20 g 33 #[.int .i64 x.kind, .int .i64 x.n, .string x.a, .string x.z, .slice x.A x.nb x.cb] := HK20.out
        simpa using h.cell 2
      have HRD := Lib.hid (read_any w.heap.size a V7 x.a w20 HP20.out.v HXO.out.a)
      go_upto_region 21 with (go_at_call 20; refine HRD.out.mono ?_; rintro e w21 hq; obtain ⟨D9, n9, k9, rfl, _, _, _, hb⟩ := hq; have HB21 := Lib.hid hb; clear hb)
      clear c2
      have HP21 := Lib.hid (HP20.out.keep HB21.out)
      have c2 : w21.cell? ⟨g, 2, none⟩ = some (.string x.a) := by
        have h : Blk w21 g 33 #[.int .i64 x.kind, .int .i64 x.n, .string x.a, .string x.z, .slice x.A x.nb x.cb] := (HB21.out.block _ (show g < w20.heap.size from lt_of_heap HK20.out)).trans HK20.out
        simpa using h.cell 2
      have HRR := Lib.hid (rread_any mb R7 (normZ V7) x.a w21 HP21.out.r HP21.out.i HP21.out.v.inv)
      have hss : (lookF (normZ V7).F x.a).isSome = (lookF V7.F x.a).isSome := by
        show (lookF (V7.F.map normF) x.a).isSome = _
        rw [norm_look]; cases lookF V7.F x.a <;> rfl
      rw [hss] at HRR
      obtain ⟨bs9, hbs9⟩ : ∃ b, b = (lookF V7.F x.a).isSome := ⟨_, rfl⟩
      rw [← hbs9] at HRR ⊢
      clear hss hbs9
      go_wp2_with (go_at_call 21; refine HRR.out.mono ?_; rintro e w22 ⟨⟨v22, rfl⟩, hb⟩; have HB22 := Lib.hid hb; clear hb)
      go_roundw
      case rel => exact ⟨k + 1, a, mb, V7, R7, by omega, by omega, by go_num, rfl, rfl, Lib.hid (HP21.out.keep HB22.out)⟩
      case measure => simp [intOf]; omega
    | false =>
      clear hk hk8 Hb HA HG HN hn2 hnc
      go_wp2_with (go_at_call 11; refine (alive_any _).mono ?_; rintro e w40 ⟨rfl, hb⟩; have HB40 := Lib.hid hb; clear hb)
      go_ret
      exact ⟨rfl, HS.out.below.trans (HB40.out.mono HS.out.below.size)⟩
end Go.Proofs.Ytaahomohhagcoaa
