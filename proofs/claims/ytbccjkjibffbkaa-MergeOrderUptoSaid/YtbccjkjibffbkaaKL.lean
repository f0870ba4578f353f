/- MergeTells (3). -/
import Derived.Test.YtbccjkjibffbkaaKJ
namespace Go.Proofs.Ytbccjkjibffbkaa
open Go.RowKit Go.Shelf
set_option linter.unusedSimpArgs false
set_option linter.unusedVariables false
theorem info28 : (Try.prog.info? 28).map (fun i => (i.zero, i.size, i.bytes)) = some (some (.slice none 0 0), 1, 24) := by kernel_rfl
/-- The lists, copied. -/
structure Was (w : World) (v : Value) (V L : List Le) (i : Nat) (W : World) : Prop where
  own : W.ownsRow w.heap.size 28 1 v V.length (V.map encE)
  len : V.length = i
  zs : V.map Le.Z = (L.take i).map Le.Z
  bel : Below w.heap.size w W
  each : ∀ y ∈ V, W.ownsRow w.heap.size 39 4 (encE y) y.n (cellsR y.Z)
theorem Was.keep {w W W' : World} {v : Value} {V L : List Le} {i : Nat} (h : Was w v V L i W) (hb : Below W.heap.size W W') : Was w v V L i W' :=
  ⟨own_below h.own hb, h.len, h.zs, h.bel.trans (hb.mono h.bel.size), fun y hy => own_below (h.each y hy) hb⟩
theorem Was.at {w W : World} {v : Value} {V L : List Le} {i j : Nat} (h : Was w v V L i W) (hj : j < i) (hl : i ≤ L.length) : ∃ b off n c A q, v = .slice (some ⟨b, off, none⟩) V.length c ∧ W.cell? ⟨b, off + j, none⟩ = some (.slice A n q) ∧ n = (L[j]'(by omega)).Z.length ∧ Row W A (cellsR (L[j]'(by omega)).Z) ∧ n ≤ 9223372036854775807 := by
  have hjV : j < V.length := by rw [h.len]; exact hj
  have hz : V[j].Z = (L[j]'(by omega)).Z := by
    have h1 : (V.map Le.Z)[j]? = ((L.take i).map Le.Z)[j]? := by rw [h.zs]
    rw [List.getElem?_map, List.getElem?_map, List.getElem?_eq_getElem hjV, List.getElem?_take, if_pos hj, List.getElem?_eq_getElem (by omega)] at h1
    exact Option.some.inj h1
  have ho := h.each V[j] (List.getElem_mem hjV)
  have hn : V[j].n = V[j].Z.length := by have := ho.1; rw [cellsR_length] at this; omega
  rw [hn] at ho
  obtain ⟨_, A, c, e, hr, hc, hm, _⟩ := own_sliceR ho
  obtain ⟨ea, en, ec⟩ := Value.slice.inj (show Value.slice V[j].A V[j].n V[j].c = .slice A V[j].Z.length c from e)
  rcases h.own.2 with ⟨e3, h0⟩ | ⟨g, cap, cur, rfl, _, hg, h1, h2, h3, h4⟩
  · exfalso; omega
  · refine ⟨g, 0, V[j].Z.length, cap, A, c, rfl, ?_, by rw [hz], by rw [← hz]; exact hr, by unfold maxLen at hm; omega⟩
    have hcc : W.cell? ⟨g, 0 + j, none⟩ = cur[j]? := by simp [World.cell?, hg]
    rw [hcc]
    have h5 : (V.map encE)[j]? = some (encE V[j]) := by rw [List.getElem?_map, List.getElem?_eq_getElem hjV]; rfl
    rw [← h4, List.getElem?_take, Array.getElem?_toList] at h5
    rw [if_pos (by omega)] at h5
    rw [h5]
    exact congrArg some e
theorem Was.more {w W W2 W3 : World} {v v3 : Value} {V L : List Le} {i : Nat} {y : Le} (h : Was w v V L i W) (hb : Below W.heap.size W W2) (hi : i < L.length) (hy : W2.ownsRow W.heap.size 39 4 (encE y) y.n (cellsR y.Z)) (hz : y.Z = L[i].Z)
    (ho : W3.ownsRow w.heap.size 28 1 v3 (V.length + 1) (V.map encE ++ [encE y])) (hg : (W2.alloc (.cells #[encE y] 28)).grownBy W3 v.ownBlock) : Was w v3 (V ++ [y]) L (i + 1) W3 := by
  have h2 := h.keep hb
  have hba : Below W2.heap.size W2 (W2.alloc (.cells #[encE y] 28)) := bpush (Below.refl _ _) _
  have h3 := h2.keep hba
  have hs := h3.bel.size
  refine ⟨by rw [List.length_append, List.map_append]; exact ho, by rw [List.length_append, h.len]; rfl, ?_, h3.bel.trans (grown_below4 h3.own hg hs), fun z hz' => ?_⟩
  · rw [take_snoc L i hi, List.map_append, List.map_append, h.zs]
    show _ ++ [y.Z] = _ ++ [L[i].Z]
    rw [hz]
  · rcases List.mem_append.1 hz' with h4 | h4
    · exact (h3.each z h4).kept hg (own_not_own (h3.each z h4) h3.own (by decide))
    · rw [List.mem_singleton.1 h4]
      have h5 := own_less (own_below hy hba) h.bel.size
      exact h5.kept hg (own_not_own h5 h3.own (by decide))
def Two28 (b p b2 p2 : Nat) (x y : Value) (W : World) : Prop := W.cell? ⟨b, p, none⟩ = some x ∧ W.cell? ⟨b2, p2, none⟩ = some y
theorem Two28.keep {b p b2 p2 : Nat} {x y : Value} {W W' : World} (h : Two28 b p b2 p2 x y W) (hb : Below W.heap.size W W') : Two28 b p b2 p2 x y W' := ⟨cell_later hb h.1, cell_later hb h.2⟩
set_option maxRecDepth 100000 in
set_option maxHeartbeats 16000000 in
theorem tells_walk (A B C : Option Addr) (n c m d k cap : Nat) (N M : List ByteArray) (L : List Le) (w : World) (hs : Sch w A B n c m d N M) (hL : Ls0 w C L) (hk : k = L.length) (hk2 : k ≤ 9223372036854775807) :
    Calls Try.prog 3 #[.agg #[.slice A n c, .slice B m d], .slice C k cap] w fun e w' => e = .returned (.bool true) ∧ Below w.heap.size w w' := by
  obtain ⟨W1, hW1⟩ : ∃ W1, W1 = w.alloc (.cells #[.slice A n c, .slice B m d] 24) := ⟨_, rfl⟩
  have hb1 : Below w.heap.size w W1 := by rw [hW1]; exact bpush (Below.refl _ _) _
  have s0 : W1.cell? ⟨w.heap.size, 0, none⟩ = some (.slice A n c) := by rw [hW1]; exact cell_made rfl rfl
  have s1 : W1.cell? ⟨w.heap.size, 1, none⟩ = some (.slice B m d) := by rw [hW1]; exact cell_made rfl rfl
  obtain ⟨r, hr⟩ := bool_of (fitsL N M L)
  have HFT := Lib.hid (fitsl_any A B C n c m d k cap N M L W1 (hs.keep hb1) (hL.keep hb1) hk hk2 r hr)
  have HB1 := Lib.hid hb1
  have HLS := Lib.hid (hL.keep hb1)
  have HK := Lib.hid hk
  have HR := Lib.hid hr
  have HW1 := Lib.hid hW1
  obtain ⟨sb, hsb⟩ : ∃ sb, sb = w.heap.size := ⟨_, rfl⟩
  have HSB := Lib.hid hsb
  clear hs hL hk hr hW1 hb1 hsb
  cases r
  case false =>
    go_enter Try.func3, Try.ntmps3
    go_upto_region 1 with fail
    rw [← HW1.out, ← HSB.out]
    rw [← HSB.out] at s0 s1
    go_upto_region 3 with (go_at_call 7; refine HFT.out.mono ?_; rintro e w2 ⟨rfl, hb⟩; have HB2 := Lib.hid hb; clear hb)
    have HAL := Lib.hid (alive_any w2)
    go_wp2_with (go_at_call 8; refine HAL.out.mono ?_; rintro e w3 ⟨rfl, hb⟩; have HB3 := Lib.hid hb; clear hb)
    go_ret
    exact ⟨rfl, bthen (HB1.out.trans (HB2.out.mono HB1.out.size)) HB3.out⟩
  case true =>
    have hft := HR.out.1 rfl
    have hk8 : k ≤ 8 := by have := hft.2.1; have := HK.out; omega
    have HIN := Lib.hid (fitsL_in hft HLS.out)
    have HQ := Lib.hid (fitsL_q hft)
    have HT := Lib.hid (show (L.map Le.Z).flatten.length ≤ 200 from hft.2.2.1)
    obtain ⟨i8, hi8, hz8, hz9, hz10⟩ := info_parts info28
    clear hft
    go_enter Try.func3, Try.ntmps3
    go_upto_region 1 with fail
    rw [← HW1.out, ← HSB.out]
    rw [← HSB.out] at s0 s1
    go_upto_region 6 with (go_at_call 7; refine HFT.out.mono ?_; rintro e w2 ⟨rfl, hb⟩; have HB2 := Lib.hid hb; clear hb)
    go_loopw [6, 7] (fun v6 v7 wr => ∃ (i : Nat) (v : Value) (V : List Le), v = v6 ∧ v7 = .int .i64 i ∧ i ≤ k ∧ Hid (Was W1 v V L i wr)) (fun _ v7 _ => k - (intOf v7).toNat)
    case atStart => exact ⟨0, _, [], rfl, rfl, Nat.zero_le _, Lib.hid ⟨World.ownsRow_nil _ _ _ _, rfl, rfl, HB2.out, fun y hy => absurd hy List.not_mem_nil⟩⟩
    case round =>
      obtain ⟨i, v, V, rfl, rfl, hik, HWS⟩ := hrel
      obtain ⟨wo, rfl⟩ : ∃ wo : World, wo = wr := ⟨_, rfl⟩
      by_cases hlt : i < k
      case pos =>
        have hkz0 : (0 : Int) ≤ (i : Int) := by omega
        have hkz1 : (i : Int) < (k : Int) := by omega
        have hkz : i < L.length := by have := HK.out; omega
        obtain ⟨b, off, hAe, c0, hok⟩ := (HIN.out.keep HWS.out.bel).at hkz
        obtain ⟨x, hx⟩ : ∃ x, x = L[i] := ⟨_, rfl⟩
        rw [← hx] at c0 hok
        have hx200 : x.n ≤ 200 := by
          have h1 := flat_len (L := L) (k := i + 1)
          rw [flat_take hkz, List.length_append, ← hx] at h1
          have := HT.out; have := hok.len; omega
        have HX := Lib.hid (show ∃ h : i < L.length, x = L[i] from ⟨hkz, hx⟩)
        have HOK := Lib.hid hok
        subst hAe
        clear hlt hx hok hkz
        have c1 := cell_later (bpush (Below.refl wo.heap.size wo) (.cells #[] 39)) c0
        have HSZ := Lib.hid (show W1.heap.size ≤ wo.heap.size from HWS.out.bel.size)
        have hvl : V.length = i := HWS.out.len
        go_wp2_with (first
          | (at_builtin; refine wpList_append_rows rfl _ _ rfl wo.heap.size _ 0 [] rfl x.A x.n x.c x.Z rfl (own_empty (Nat.le_refl _)) (HOK.out.rows.row.keep (Nat.le_refl _) (bpush (Below.refl _ _) _)) HOK.out.len HOK.out.cap HOK.out.nil (by omega) (by simp) ?_; intro v1 w1 ho1 hg1; rw [Nat.zero_add, List.nil_append] at ho1; have hb1 : Below wo.heap.size wo w1 := (bpush (Below.refl _ _) _).trans (grown_below4 (s := 4) (own_empty (Nat.le_refl _)) hg1 (by simp)); obtain ⟨Av, cv, rfl⟩ := own_is ho1; have HO1 := Lib.hid ho1; have HBW := Lib.hid hb1; clear ho1 hg1 hb1)
          | (at_builtin; refine wpList_append_own_at _ rfl _ _ 25 rfl W1.heap.size 28 i8 (.slice none 0 0) 1 24 Try.underlying25 hi8 hz8 hz9 hz10 rfl (by decide) v V.length (V.map encE) rfl (own_below (HWS.out.keep HBW.out).own (bpush (Below.refl _ _) _)) ⟨w1.heap.size, 0, none⟩ 1 1 [.slice Av x.n cv] rfl rfl (Row.made rfl rfl).at' (by intro u hu; rw [List.mem_singleton.1 hu]; rfl) (by unfold maxLen; omega) (by omega) (by simp; exact Nat.le_trans HSZ.out (Nat.le_succ_of_le HBW.out.size)) ?_; intro v3 w3 ho3 hg3 _ _))
        have HWN := Lib.hid (show Was W1 v3 (V ++ [⟨Av, x.n, cv, x.Z⟩]) L (i + 1) w3 from by
          obtain ⟨hi, hx⟩ := HX.out
          exact HWS.out.more (y := ⟨Av, x.n, cv, x.Z⟩) HBW.out hi HO1.out (by rw [hx]) ho3 hg3)
        clear ho3 hg3 c0 c1
        go_roundw
        case rel => exact ⟨i + 1, v3, _, rfl, by go_num, by omega, HWN⟩
        case measure => simp [intOf]; omega
      case neg =>
      have hki : ¬ ((i : Int) < (k : Int)) := by omega
      obtain rfl : i = k := by omega
      have HWS := Lib.hid HWS.out
      clear hlt
      have HCL := Lib.hid (fun (W : World) (h : Below wo.heap.size wo W) => lists_any M.length C i cap L W ((HIN.out.keep HWS.out.bel).keep h) HK.out (by have := HK.out; omega) (fun z hz => (HQ.out z hz).ok) (by have := HT.out; omega))
      have HCR := Lib.hid (fun (W : World) (h : Below wo.heap.size wo W) => reflists_any M.length N.length C i cap L W ((HIN.out.keep HWS.out.bel).keep h) HK.out HQ.out (by have := HT.out; omega))
      have HCS := Lib.hid (fun (W : World) (h : Below wo.heap.size wo W) => stats_any C i cap L W ((HIN.out.keep HWS.out.bel).keep h) HK.out (by have := HK.out; omega) (by have := HT.out; omega))
      have HCT := Lib.hid (fun (W : World) (h : Below wo.heap.size wo W) => refstats_any M.length N.length C i cap L W ((HIN.out.keep HWS.out.bel).keep h) HK.out HQ.out (by have := HT.out; omega))
      go_upto_region 13 with (first
        | (go_at_call 9; refine (HCL.out _ (Below.refl _ _)).mono ?_; rintro e w3 ⟨v3, Y3, x3, rfl, hl3, ho3, hy3, hb3⟩; have HL3 := Lib.hid hl3; have HO3 := Lib.hid ho3; have HY3 := Lib.hid hy3; have HB3 := Lib.hid hb3; clear hl3 ho3 hy3 hb3)
        | (go_at_call 10; refine (HCR.out _ HB3.out).mono ?_; rintro e w4 ⟨B4, O4, c4, x4, rfl, hl4, hr4, hc4, hb4⟩; have HL4 := Lib.hid hl4; have HR4 := Lib.hid hr4; have HC4 := Lib.hid hc4; have HB4 := Lib.hid hb4; have HB34 := Lib.hid (bthen HB3.out hb4); clear hl4 hr4 hc4 hb4)
        | (go_at_call 11; refine (HCS.out _ HB34.out).mono ?_; rintro e w5 ⟨rfl, hb5⟩; have HB5 := Lib.hid hb5; have HB35 := Lib.hid (bthen HB34.out hb5); clear hb5)
        | (go_at_call 12; refine (HCT.out _ HB35.out).mono ?_; rintro e w6 ⟨rfl, hb6⟩; have HB6 := Lib.hid hb6; have HB36 := Lib.hid (bthen HB35.out hb6); clear hb6))
      have heq : Y3.map Prod.snd = O4.map Prod.snd ∧ x3 = x4 := Prod.mk.inj (HL3.out.symm.trans HL4.out)
      obtain ⟨hyo, rfl⟩ := heq
      have HYO := Lib.hid hyo
      clear hyo
      obtain ⟨ns, hns⟩ : ∃ ns, ns = statsN L := ⟨_, rfl⟩
      obtain ⟨ks, hks⟩ : ∃ ks, ks = statsK L := ⟨_, rfl⟩
      rw [← hns, ← hks]
      have HW6 := Lib.hid (show Was W1 v V L i w6 from HWS.out.keep HB36.out)
      have HB46 := Lib.hid (bthen HB4.out (bthen HB5.out HB6.out))
      clear hns hks HCL HCR HCS HCT
      go_upto_region 14 with fail
      go_loopw [16] (fun v16 wr => ∃ j : Nat, v16 = .int .i64 j ∧ j ≤ i ∧ Hid (Below w6.heap.size w6 wr)) (fun v16 _ => i - (intOf v16).toNat)
      case atStart => exact ⟨0, rfl, Nat.zero_le _, Lib.hid (Below.refl _ _)⟩
      case round =>
        obtain ⟨j, rfl, hji, HBJ⟩ := hrel
        obtain ⟨wj, rfl⟩ : ∃ wj : World, wj = wr := ⟨_, rfl⟩
        by_cases hlt : j < i
        case pos =>
          have hj0 : (0 : Int) ≤ (j : Int) := by omega
          have hj1 : (j : Int) < (i : Int) := by omega
          have hiL : i ≤ L.length := by have := HK.out; omega
          obtain ⟨b, off, hAe, c0, hok⟩ := ((HIN.out.keep HW6.out.bel).keep HBJ.out).at (k := j) (by omega)
          obtain ⟨b2, o2, n2, c2, A2, q2, rfl, d0, hn2, hr2, hm2⟩ := (HW6.out.keep HBJ.out).at hlt hiL
          have hvl : V.length = i := HWS.out.len
          rw [hvl]
          obtain ⟨x, hx⟩ : ∃ x, x = L[j]'(by omega) := ⟨_, rfl⟩
          rw [← hx] at c0 hok hn2 hr2
          have HSM := Lib.hid (fun (W : World) (h : Below wj.heap.size wj W) => refrows_any x.A A2 x.n x.c n2 q2 (x.Z.map Prod.snd) (x.Z.map Prod.snd) W (hok.keep h).rows.rowsM (RowsC.rowsM ⟨hr2.keep (Nat.le_refl _) h, (hok.keep h).rows.good⟩) (by rw [List.length_map]; exact hok.len) (by rw [List.length_map]; exact hn2) (Nat.le_trans hok.cap hok.max) hm2 true (by simp))
          have HTW := Lib.hid (show Two28 b (off + j) b2 (o2 + j) (.slice x.A x.n x.c) (.slice A2 n2 q2) wj from ⟨c0, d0⟩)
          subst hAe
          clear hlt hx hok hn2 hr2 hm2 c0 d0 hvl
          go_upto_region 16 with fail
          refine wp_region_held_drew (S := Two28 b (off + j) b2 (o2 + j) (.slice x.A x.n x.c) (.slice A2 n2 q2)) (by kernel_rfl) (HTW.out.keep (below_drewN (Below.refl _ _) 1)) ?_
          intro hHeld
          refine take_want (i := 0) (v := ?va0) rfl (by kernel_rfl) (by kernel_rfl) (by kernel_rfl) (fun _ _ _ h => h) (by rfl) ?ya0 (by assumption) ?ra0
          case ya0 => (intro w hSw; obtain ⟨xc, yc⟩ := hSw; go_simp; all_goals with_reducible rfl)
          (try simp only [Act.put, List.setIfInBounds_toArray, List.set_cons_zero, List.set_cons_succ])
          refine take_want (i := 1) (v := ?va1) rfl (by kernel_rfl) (by kernel_rfl) (by kernel_rfl) (fun _ _ _ h => h) (by rfl) ?ya1 (by assumption) ?ra1
          case ya1 => (intro w hSw; obtain ⟨xc, yc⟩ := hSw; go_simp; all_goals with_reducible rfl)
          (try simp only [Act.put, List.setIfInBounds_toArray, List.set_cons_zero, List.set_cons_succ])
          refine take_want (i := 2) (v := ?va2) rfl (by kernel_rfl) (by kernel_rfl) (by kernel_rfl) (fun _ _ _ h => h) (by rfl) ?ya2 (by assumption) ?ra2
          case ya2 => (intro w hSw; obtain ⟨xc, yc⟩ := hSw; go_simp; all_goals with_reducible rfl)
          (try simp only [Act.put, List.setIfInBounds_toArray, List.set_cons_zero, List.set_cons_succ])
          refine take_want (i := 3) (v := ?va3) rfl (by kernel_rfl) (by kernel_rfl) (by kernel_rfl) (fun _ _ _ h => h) (by rfl) ?ya3 (by assumption) ?ra3
          case ya3 => (intro w hSw; obtain ⟨xc, yc⟩ := hSw; go_simp; all_goals with_reducible rfl)
          (try simp only [Act.put, List.setIfInBounds_toArray, List.set_cons_zero, List.set_cons_succ])
          refine take_want (i := 4) (v := ?va4) rfl (by kernel_rfl) (by kernel_rfl) (by kernel_rfl) (fun _ _ _ h => h) (by rfl) ?ya4 (by assumption) ?ra4
          case ya4 => (intro w hSw; obtain ⟨xc, yc⟩ := hSw; go_simp; all_goals with_reducible rfl)
          (try simp only [Act.put, List.setIfInBounds_toArray, List.set_cons_zero, List.set_cons_succ])
          refine take_want (i := 5) (v := ?va5) rfl (by kernel_rfl) (by kernel_rfl) (by kernel_rfl) (fun _ _ _ h => h) (by rfl) ?ya5 (by assumption) ?ra5
          case ya5 => (intro w hSw; obtain ⟨xc, yc⟩ := hSw; go_simp; all_goals with_reducible rfl)
          (try simp only [Act.put, List.setIfInBounds_toArray, List.set_cons_zero, List.set_cons_succ])
          refine take_want (i := 6) (v := ?va6) rfl (by kernel_rfl) (by kernel_rfl) (by kernel_rfl) (fun _ _ _ h => h) (by rfl) ?ya6 (by assumption) ?ra6
          case ya6 => (intro w hSw; obtain ⟨xc, yc⟩ := hSw; go_simp; all_goals with_reducible rfl)
          (try simp only [Act.put, List.setIfInBounds_toArray, List.set_cons_zero, List.set_cons_succ])
          refine take_want (i := 7) (v := ?va7) rfl (by kernel_rfl) (by kernel_rfl) (by kernel_rfl) (fun _ _ _ h => h) (by rfl) ?ya7 (by assumption) ?ra7
          case ya7 => (intro w hSw; obtain ⟨xc, yc⟩ := hSw; go_simp; all_goals with_reducible rfl)
          (try simp only [Act.put, List.setIfInBounds_toArray, List.set_cons_zero, List.set_cons_succ])
          refine wpAnyH_ready (rs := [8]) (by kernel_rfl) (by simp) ?_
          refine AllReadyH.cons rfl (fun K hK => ?_) AllReadyH.nil
          go_simp
          (go_at_call 13; refine (HSM.out _ (below_drewN (Below.refl _ _) 1)).mono ?_; rintro e w7 ⟨rfl, hb⟩)
          refine hK.out _ _ (hHeld.keep hb) (fun hHeld => ?_)
          clear hK K
          (try simp only [Act.put, List.setIfInBounds_toArray, List.set_cons_zero, List.set_cons_succ])
          have HB7 := Lib.hid (show Below wj.heap.size wj w7 from (below_drewN (Below.refl _ _) 1).trans (hb.mono (Nat.le_refl _)))
          clear hb HSM
          refine take_want (i := 9) (v := ?vb9) rfl (by kernel_rfl) (by kernel_rfl) (by kernel_rfl) (fun _ _ _ h => h) (by rfl) ?yb9 (by assumption) ?rb9
          case yb9 => (intro w hSw; go_simp; all_goals with_reducible rfl)
          (try simp only [Act.put, List.setIfInBounds_toArray, List.set_cons_zero, List.set_cons_succ])
          clear hHeld
          refine wpAnyH_done (by kernel_rfl) ?_ _
          go_wp2_with fail
          go_roundw
          case rel => exact ⟨j + 1, by go_num, by omega, Lib.hid (HBJ.out.trans (HB7.out.mono HBJ.out.size))⟩
          case measure => simp [intOf]; omega
        case neg =>
        have hki : ¬ ((j : Int) < (i : Int)) := by omega
        obtain ⟨_, v3A, v3c, rfl, hvr, hvc, hvm, _⟩ := own_sliceR HO3.out
        have hb3j : Below w3.heap.size w3 wj := bthen HB46.out HBJ.out
        have hy9 : Y3.length ≤ v3c := hvc
        have HSM := Lib.hid (refrows_any v3A B4 Y3.length v3c O4.length c4 (Y3.map Prod.snd) (O4.map Prod.snd) wj
          (RowsC.rowsM ⟨hvr.keep (Nat.le_refl _) hb3j, fun y hy => ((HY3.out y hy).good).keep hb3j⟩) ((HR4.out.keep (bthen HB5.out (bthen HB6.out HBJ.out))).rowsM) (by rw [List.length_map]) (by rw [List.length_map]) (by unfold maxLen at hvm; omega) (by
            have := congrArg List.length HYO.out
            rw [List.length_map, List.length_map] at this
            unfold maxLen at hvm; omega) true (by simp [HYO.out]))
        have HBE := Lib.hid (show Below w.heap.size w wj from HB1.out.trans ((HWS.out.bel.trans (((bthen HB36.out HBJ.out)).mono HWS.out.bel.size)).mono HB1.out.size))
        have HAL := Lib.hid (fun W => alive_any W)
        clear hlt hvr hvc hvm hb3j hy9
        go_wp2_with (first | (go_at_call 13; refine HSM.out.mono ?_; rintro e w7 ⟨rfl, hb⟩; have HB7 := Lib.hid hb; clear hb) | (go_at_call 8; refine (HAL.out _).mono ?_; rintro e w8 ⟨rfl, hb⟩; have HB8 := Lib.hid hb; clear hb))
        go_ret
        exact ⟨by simp, HBE.out.trans ((bthen HB7.out HB8.out).mono HBE.out.size)⟩
end Go.Proofs.Ytbccjkjibffbkaa
