/- The walk of IngestPlays (4). -/
import Derived.Test.YtmmeekmiildliaaGreatDoorJC
import Derived.Test.YtmmeekmiildliaaGreatDoorIR
import Derived.BigQuiet
namespace Go.Proofs.YtmmeekmiildliaaGreatDoor
open Go.RowKit
set_option linter.unusedSimpArgs false
set_option linter.unusedVariables false
/-- Rows that were taken of an index. -/
def Was (W : World) (A : Option Addr) (c : Nat) (V : List RV) : Prop := ∃ B Y, W.ownsRow B 59 4 (.slice A V.length c) V.length (cellsR Y) ∧ Y.map Prod.snd = V ∧ ∀ y ∈ Y, Owned B W y
theorem Was.keep {W W' : World} {A : Option Addr} {c : Nat} {V : List RV} (h : Was W A c V) (hb : Below W.heap.size W W') : Was W' A c V := by
  obtain ⟨B, Y, h1, h2, h3⟩ := h
  exact ⟨B, Y, own_below h1 hb, h2, fun y hy => (h3 y hy).keep hb⟩
theorem Was.kx {W W' : World} {A : Option Addr} {c B bx mb nn : Nat} {V V2 : List RV} {g : Int} {L M : List ByteArray} (h : Was W A c V) (h2 : Ix W B bx mb g L M V2 nn) (hk : Kx bx mb W W') : Was W' A c V := by
  obtain ⟨B0, Y, h1, hy, h3⟩ := h
  obtain ⟨es2, cl2, hb2⟩ := h2.map
  obtain ⟨A2, n2, c2, E2, m2, d2, hk2, _⟩ := h2.blk
  exact ⟨B0, Y, hk.own h1 (h1.not_blk hk2 (by decide)) (own_not_map h1 hb2), hy, fun y hy => owned_kx hk (h3 y hy) hk2 hb2⟩
theorem Was.near {W W' : World} {A : Option Addr} {c dx : Nat} {V : List RV} {cs : Array Value} (h : Was W A c V) (hb : Blk W dx 51 cs) (hn : Near dx W.heap.size W W') : Was W' A c V := by
  obtain ⟨B0, Y, h1, hy, h3⟩ := h
  exact ⟨B0, Y, hn.own51 hb h1 (by decide), hy, fun y hy => ⟨hn.own51 hb (h3 y hy).d (by decide), hn.own51 hb (h3 y hy).g (by decide), (h3 y hy).sd, (h3 y hy).sg⟩⟩
theorem Was.rowsM {W : World} {A : Option Addr} {c : Nat} {V : List RV} (h : Was W A c V) : RowsM W A V := by
  obtain ⟨B0, Y, h1, hy, h3⟩ := h
  obtain ⟨_, A', c', e', hr', _⟩ := own_sliceR h1
  cases e'
  have := (show RowsC W A Y from ⟨hr', fun y hy => (h3 y hy).good⟩).rowsM
  rwa [hy] at this
theorem Dx.blk51 {w : World} {C dx : Nat} {g : Int} {L M : List ByteArray} {V : List RV} (h : Dx w C dx g L M V) : ∃ cs, Blk w dx 51 cs := by
  obtain ⟨A, n, c, E, m, d, R, k, Z, h1, _⟩ := h.blk
  exact ⟨_, h1⟩
theorem Ix.strict {w : World} {B bx mb nn : Nat} {g : Int} {L M : List ByteArray} {V : List RV} (h : Ix w B bx mb g L M V nn) : Strict V := by
  obtain ⟨D, Z, hown, hD, hV, hO⟩ := h.rows
  exact hV.strict
set_option maxRecDepth 100000 in
set_option maxHeartbeats 16000000 in
theorem plays_walk (A E VA : Option Addr) (n c m d l lc : Nat) (g : Int) (L M : List ByteArray) (Z : List EV) (w : World) (hT : Tab w) (hA : Row w A (texts L)) (hB : Row w E (texts M)) (hZ : EvsC w VA Z) (hn : n = L.length) (hm : m = M.length) (hl : l = Z.length) (hnc : n ≤ c) (hmd : m ≤ d) (ha : A = none → c = 0) (hb : E = none → d = 0)
    (hL : ∀ s ∈ L, s.size ≤ 9223372036854775807) (hM : ∀ s ∈ M, s.size ≤ 9223372036854775807) (hn2 : n ≤ 9223372036854775807) (hm2 : m ≤ 9223372036854775807) (hl2 : l ≤ 9223372036854775807) (hp2 : ∀ z ∈ Z, z.p ≤ 9223372036854775807 ∧ z.x ≤ 9223372036854775807) :
    Calls Tryz.prog 4 #[.agg #[.slice A n c, .slice E m d], .int .i64 g, .slice VA l lc] w fun e w' => e = .returned (.bool true) ∧ Below w.heap.size w w' := by
  obtain ⟨W0, hW0⟩ : ∃ W0, W0 = w.alloc (.cells #[.slice A n c, .slice E m d] 24) := ⟨_, rfl⟩
  have hb0 : Below w.heap.size w W0 := by rw [hW0]; exact bpush (Below.refl _ _) _
  have s0 : W0.cell? ⟨w.heap.size, 0, none⟩ = some (.slice A n c) := by rw [hW0]; exact cell_made rfl rfl
  have s1 : W0.cell? ⟨w.heap.size, 1, none⟩ = some (.slice E m d) := by rw [hW0]; exact cell_made rfl rfl
  obtain ⟨r, hr⟩ := bool_of (FitsE L M Z)
  have HF := Lib.hid (fitsev_any A E VA n c m d l lc L M Z W0 (hA.keep (Nat.le_refl _) hb0) (hB.keep (Nat.le_refl _) hb0) (hZ.keep (Nat.le_refl _) hb0) hn hm hl hn2 hm2 hl2 hp2 r hr)
  have HT := Lib.hid hT
  have HAA := Lib.hid hA
  have HBB := Lib.hid hB
  have HZZ := Lib.hid hZ
  have HNL := Lib.hid hn
  have HMM := Lib.hid hm
  have HLL := Lib.hid hl
  have HNC := Lib.hid hnc
  have HMD := Lib.hid hmd
  have HNA := Lib.hid ha
  have HEA := Lib.hid hb
  have HLS := Lib.hid hL
  have HMS := Lib.hid hM
  have HR := Lib.hid hr
  have HB0 := Lib.hid hb0
  have HW0 := Lib.hid hW0
  clear hT hA hB hZ hn hm hl hnc hmd ha hb hL hM hn2 hm2 hl2 hp2 hr hW0 hb0
  go_enter Tryz.func4, Tryz.ntmps4
  go_upto_region 1 with fail
  rw [← HW0.out]
  clear HW0
  go_upto_region 2 with (go_at_call 8; refine HF.out.mono ?_; rintro e w1 ⟨rfl, hb1⟩)
  have HB1 := Lib.hid (bthen HB0.out hb1)
  have s0 := cell_on hb1 s0
  have s1 := cell_on hb1 s1
  clear hb1 HF
  cases r with
  | false =>
    go_wp2_with (go_at_call 10; refine (alive_any _ (HT.out.keep HB1.out)).mono ?_; rintro e w3 ⟨rfl, hb3⟩)
    go_ret
    exact ⟨rfl, bthen HB1.out hb3⟩
  | true =>
  have HFT := Lib.hid (HR.out.1 rfl)
  have hn20 : n ≤ 20 := by have := HFT.out.l.1; have := HNL.out; omega
  have hm20 : m ≤ 20 := by have := HFT.out.m.1; have := HMM.out; omega
  have hl60 : l ≤ 60 := by have := HFT.out.n; have := HLL.out; omega
  obtain ⟨x, hx⟩ := newE_ex L M g
  have HX := Lib.hid hx
  have HN1 := Lib.hid (new_any A E n c m d g L M w1 (HAA.out.keep (Nat.le_refl _) HB1.out) (HBB.out.keep (Nat.le_refl _) HB1.out) HNL.out HMM.out HNC.out HMD.out HNA.out HEA.out HLS.out HMS.out (by omega) (by omega) x hx)
  have HN2 := Lib.hid (fun W (hW : Below w.heap.size w W) => refnew_any A E n c m d g L M W (HAA.out.keep (Nat.le_refl _) hW) (HBB.out.keep (Nat.le_refl _) hW) HNL.out HMM.out HNC.out HMD.out HNA.out HEA.out HLS.out HMS.out hn20 hm20 x hx)
  clear hx HR
  by_cases hx0 : x = 0
  case neg =>
    have z1 : (x != 0) = true := by rw [bne_iff_ne]; exact hx0
    have z2 : (x != x) = false := by simp
    have z3 : (x == x) = true := by simp
    have HX0 := Lib.hid hx0
    clear hx0
    go_wp2_with (first
      | (go_at_call 14; refine HN1.out.mono ?_; rintro e w2 ⟨h, hb2⟩; obtain ⟨-, rfl⟩ := h.resolve_right (fun h => HX0.out h.1); have s0 := cell_on hb2 s0; have s1 := cell_on hb2 s1; have HB2 := Lib.hid (bthen HB1.out hb2); clear hb2)
      | (go_at_call 15; refine (HN2.out _ HB2.out).mono ?_; rintro e w3 ⟨h, hb3⟩; obtain ⟨-, rfl⟩ := h.resolve_right (fun h => HX0.out h.1); have HB3 := Lib.hid (bthen HB2.out hb3); clear hb3)
      | (go_at_call 10; refine (alive_any _ (HT.out.keep HB3.out)).mono ?_; rintro e w4 ⟨rfl, hb4⟩))
    go_ret
    exact ⟨rfl, bthen HB3.out hb4⟩
  case pos =>
  subst hx0
  go_upto_region 8 with (first
      | (go_at_call 14; refine HN1.out.mono ?_; rintro e w2 ⟨h, hb2⟩; obtain ⟨-, bx, mb, rfl, hix⟩ := h.resolve_left (fun h => absurd rfl h.1); have s0 := cell_on hb2 s0; have s1 := cell_on hb2 s1; have HB2 := Lib.hid (bthen HB1.out hb2); have HI := Lib.hid hix; clear hb2 hix)
      | (go_at_call 15; refine (HN2.out _ HB2.out).mono ?_; rintro e w3 ⟨h, hb3⟩; obtain ⟨-, dx, rfl, hdx⟩ := h.resolve_left (fun h => absurd rfl h.1); have HI := Lib.hid (HI.out.keep hb3); have HD := Lib.hid hdx; have HB3 := Lib.hid (bthen HB2.out hb3); clear hb3 hdx))
  have HGR := Lib.hid HI.out.gran
  have hz1 := HB1.out.size
  have hz2 := HB2.out.size
  clear HN1 HN2 s0 s1 HX
  have HADD := Lib.hid (fun (i : Nat) (hi : i < Z.length) (V : List RV) (nn : Nat) (hnn : nn ≤ 60) (v : Int) (hv : CheckIs L M Z[i].D Z[i].X Z[i].t v) (W : World) (hW : Below w.heap.size w W) (hI : Ix W w1.heap.size bx mb g L M V nn) => add_any w1.heap.size bx mb nn g L M V Z[i].E Z[i].F Z[i].p Z[i].q Z[i].x Z[i].y Z[i].t Z[i].D Z[i].X W hI (by omega) (HT.out.keep hW)
    ((HZZ.out.good _ (List.getElem_mem hi)).rd.keep (Nat.le_refl _) hW) ((HZZ.out.good _ (List.getElem_mem hi)).rx.keep (Nat.le_refl _) hW) (HZZ.out.good _ (List.getElem_mem hi)).nd (HZZ.out.good _ (List.getElem_mem hi)).nx (HZZ.out.good _ (List.getElem_mem hi)).sd (HZZ.out.good _ (List.getElem_mem hi)).cd (HZZ.out.good _ (List.getElem_mem hi)).ad
    (by have h1 := (HFT.out.ev _ (List.getElem_mem hi)).1.1; have h2 := (HZZ.out.good _ (List.getElem_mem hi)).nd; omega) (by have h1 := (HFT.out.ev _ (List.getElem_mem hi)).2; have h2 := (HZZ.out.good _ (List.getElem_mem hi)).nx; omega) v hv)
  have HRADD := Lib.hid (fun (i : Nat) (hi : i < Z.length) (V : List RV) (hV : Strict V) (hO : ∀ a ∈ V, OkX L.length M.length a) (hnV : V.length ≤ 100000) (v : Int) (hv : CheckIs L M Z[i].D Z[i].X Z[i].t v) (W : World) (hW : Below w.heap.size w W) (hI : Dx W w2.heap.size dx g L M V) => refadd_any w2.heap.size dx g L M V Z[i].E Z[i].F Z[i].p Z[i].q Z[i].x Z[i].y Z[i].t Z[i].D Z[i].X W hI hV hO HGR.out hnV
    ((HZZ.out.good _ (List.getElem_mem hi)).rd.keep (Nat.le_refl _) hW) ((HZZ.out.good _ (List.getElem_mem hi)).rx.keep (Nat.le_refl _) hW) (HZZ.out.good _ (List.getElem_mem hi)).nd (HZZ.out.good _ (List.getElem_mem hi)).nx (HZZ.out.good _ (List.getElem_mem hi)).sd (HZZ.out.good _ (List.getElem_mem hi)).cd (HZZ.out.good _ (List.getElem_mem hi)).ad
    (by have h1 := (HFT.out.ev _ (List.getElem_mem hi)).1.1; have h2 := (HZZ.out.good _ (List.getElem_mem hi)).nd; omega) (by have h1 := (HFT.out.ev _ (List.getElem_mem hi)).2; have h2 := (HZZ.out.good _ (List.getElem_mem hi)).nx; omega) v hv)
  go_wp2_with fail
  go_loopw [12, 13, 14, 15, 16] (fun v12 _ _ _ _ wr => ∃ (i : Nat) (V : List RV) (nn : Nat), v12 = .int .i64 (i : Int) ∧ i ≤ l ∧ nn ≤ i ∧ Hid (Ix wr w1.heap.size bx mb g L M V nn) ∧ Hid (Dx wr w2.heap.size dx g L M V) ∧ Hid (sumC V = (nn : Int)) ∧ Hid (Below w.heap.size w wr)) (fun v12 _ _ _ _ _ => l - (intOf v12).toNat)
  case atStart => exact ⟨0, [], 0, rfl, Nat.zero_le _, Nat.le_refl _, HI, HD, Lib.hid rfl, HB3⟩
  case round =>
    obtain ⟨i, V, nn, rfl, hi, hnn, HI, HD, HS, HBR⟩ := hrel
    by_cases hlt : i < l
    case neg =>
      have hki : ¬ ((i : Int) < (l : Int)) := by omega
      go_wp2_with (go_at_call 10; refine (alive_any _ (HT.out.keep HBR.out)).mono ?_; rintro e w4 ⟨rfl, hb4⟩)
      go_ret
      exact ⟨rfl, bthen HBR.out hb4⟩
    case pos =>
    have hki : (i : Int) < (l : Int) := by omega
    have hk0 : (0 : Int) ≤ (i : Int) := by omega
    have hiZ : i < Z.length := by have := HLL.out; omega
    have HLT := Lib.hid hlt
    have hnn6 : nn ≤ 60 := by omega
    go_upto_region 13 with (first
      | (go_at_call 16; refine (copyx_any HI.out).mono ?_; rintro e w4 ⟨bx2, mb2, rfl, hx2, hm2, hc4, hb4⟩; have HB4 := Lib.hid hb4; have HC := Lib.hid hc4; have HNE := Lib.hid (show bx ≠ bx2 ∧ mb ≠ mb2 from by have h := HI.out.lts; exact ⟨by omega, by omega⟩); clear hc4 hb4)
      | (go_at_call 17; refine (rows_any HC.out (by omega)).mono ?_; rintro e w5 ⟨A5, c5, Y5, rfl, ho5, hy5, hw5, hb5⟩; have HWS := Lib.hid (show Was w5 A5 c5 V from ⟨_, Y5, ho5, hy5, hw5⟩); have HC := Lib.hid (HC.out.keep hb5); have HB5 := Lib.hid (bthen HB4.out hb5); clear ho5 hy5 hw5 hb5))
    have HI0 := HI
    have HD0 := HD
    clear HI HD
    have HI := Lib.hid (HI0.out.keep HB5.out)
    have HD := Lib.hid (HD0.out.keep HB5.out)
    have HBW5 := Lib.hid (bthen HBR.out HB5.out)
    have HST := Lib.hid HI0.out.strict
    have HOX := Lib.hid HI0.out.ok
    have hvl : V.length ≤ 60 := by have := HI0.out.len; omega
    clear HI0 HD0
    obtain ⟨v, hv⟩ := check_ex L M Z[i].D Z[i].X Z[i].t
    have HADD := Lib.hid (fun W hW hI => HADD.out i hiZ V nn hnn6 v hv W hW hI)
    have HRADD := Lib.hid (fun W hW hI => HRADD.out i hiZ V HST.out HOX.out (by omega) v hv W hW hI)
    obtain ⟨b, off, rfl, k0, k1, k2⟩ := HZZ.out.at hiZ
    have HRX := Lib.hid (show v = 0 → OkR M.length (rowX Z[i].t g Z[i].D Z[i].X) from fun e => (rowX_ok (hv.ok e) HGR.out).r)
    obtain ⟨z, hz⟩ : ∃ z, z = Z[i] := ⟨_, rfl⟩
    rw [← hz] at k0 k1 k2 HADD HRADD HRX
    have HEC := Lib.hid (fun W (hW : Below w.heap.size w W) => show W.cell? ⟨b, off + i * 3, none⟩ = some (.int .i64 z.t) ∧ W.cell? ⟨b, off + i * 3 + 1, none⟩ = some (.slice z.E z.p z.q) ∧ W.cell? ⟨b, off + i * 3 + 2, none⟩ = some (.slice z.F z.x z.y) from ⟨cell_on hW k0, cell_on hW k1, cell_on hW k2⟩)
    obtain ⟨⟨av, V2⟩, har⟩ : ∃ a, a = addR V v (rowX z.t g z.D z.X) := ⟨_, rfl⟩
    have hst2 := addR_strict (d := 0) (v := v) HST.out (fun a ha => (HOX.out a ha).r) HRX.out
    have hsc2 := addR_sumC V v (rowX z.t g z.D z.X) rfl
    rw [← har] at HADD HRADD hst2 hsc2
    have HST2 := Lib.hid hst2
    have HSC2 := Lib.hid (show sumC V2 = ((if av = 0 then nn + 1 else nn : Nat) : Int) by rw [hsc2, HS.out]; split <;> omega)
    clear hv hz hst2 hsc2 har k0 k1 k2 hlt
    go_cut [74] (fun s74 wx => s74 = .bool false ∧ Hid (Ix wx w1.heap.size bx mb g L M V2 (if av = 0 then nn + 1 else nn)) ∧ Hid (Dx wx w2.heap.size dx g L M V2) ∧ Hid (Ix wx w1.heap.size bx2 mb2 g L M V nn) ∧ Hid (Was wx A5 c5 V) ∧ Hid (Below w.heap.size w wx))
    case first =>
      have hd5 : Below w.heap.size w w5.drew := below_drewN HBW5.out 1
      refine wp_region_held_drew (S := fun W => Below w.heap.size w W) (by kernel_rfl) (hd5) ?_
      intro hHeld
      refine take_want (i := 0) (v := ?v0k1) rfl (by kernel_rfl) (by kernel_rfl) (by kernel_rfl) (fun _ _ _ h => h) (by rfl) ?y0k1 (by assumption) ?r0k1
      case y0k1 => (intro w hSw; go_simp; all_goals with_reducible rfl)
      (try simp only [Act.put, List.setIfInBounds_toArray, List.set_cons_zero, List.set_cons_succ])
      refine take_want (i := 1) (v := ?v1k1) rfl (by kernel_rfl) (by kernel_rfl) (by kernel_rfl) (fun _ _ _ h => h) (by rfl) ?y1k1 (by assumption) ?r1k1
      case y1k1 => (intro w hSw; go_simp; all_goals with_reducible rfl)
      (try simp only [Act.put, List.setIfInBounds_toArray, List.set_cons_zero, List.set_cons_succ])
      refine take_want (i := 2) (v := ?v2k1) rfl (by kernel_rfl) (by kernel_rfl) (by kernel_rfl) (fun _ _ _ h => h) (by rfl) ?y2k1 (by assumption) ?r2k1
      case y2k1 => (intro w hSw; go_simp; all_goals with_reducible rfl)
      (try simp only [Act.put, List.setIfInBounds_toArray, List.set_cons_zero, List.set_cons_succ])
      refine take_want (i := 3) (v := ?v3k1) rfl (by kernel_rfl) (by kernel_rfl) (by kernel_rfl) (fun _ _ _ h => h) (by rfl) ?y3k1 (by assumption) ?r3k1
      case y3k1 => (intro w hSw; go_simp; all_goals with_reducible rfl)
      (try simp only [Act.put, List.setIfInBounds_toArray, List.set_cons_zero, List.set_cons_succ])
      refine take_want (i := 4) (v := ?v4k1) rfl (by kernel_rfl) (by kernel_rfl) (by kernel_rfl) (fun _ _ _ h => h) (by rfl) ?y4k1 (by assumption) ?r4k1
      case y4k1 => (intro w hSw; obtain ⟨k0, k1, k2⟩ := HEC.out w hSw; go_simp; all_goals with_reducible rfl)
      (try simp only [Act.put, List.setIfInBounds_toArray, List.set_cons_zero, List.set_cons_succ])
      refine take_want (i := 6) (v := ?v6k1) rfl (by kernel_rfl) (by kernel_rfl) (by kernel_rfl) (fun _ _ _ h => h) (by rfl) ?y6k1 (by assumption) ?r6k1
      case y6k1 => (intro w hSw; go_simp; all_goals with_reducible rfl)
      (try simp only [Act.put, List.setIfInBounds_toArray, List.set_cons_zero, List.set_cons_succ])
      refine take_want (i := 7) (v := ?v7k1) rfl (by kernel_rfl) (by kernel_rfl) (by kernel_rfl) (fun _ _ _ h => h) (by rfl) ?y7k1 (by assumption) ?r7k1
      case y7k1 => (intro w hSw; go_simp; all_goals with_reducible rfl)
      (try simp only [Act.put, List.setIfInBounds_toArray, List.set_cons_zero, List.set_cons_succ])
      refine take_want (i := 8) (v := ?v8k1) rfl (by kernel_rfl) (by kernel_rfl) (by kernel_rfl) (fun _ _ _ h => h) (by rfl) ?y8k1 (by assumption) ?r8k1
      case y8k1 => (intro w hSw; go_simp; all_goals with_reducible rfl)
      (try simp only [Act.put, List.setIfInBounds_toArray, List.set_cons_zero, List.set_cons_succ])
      refine take_want (i := 9) (v := ?v9k1) rfl (by kernel_rfl) (by kernel_rfl) (by kernel_rfl) (fun _ _ _ h => h) (by rfl) ?y9k1 (by assumption) ?r9k1
      case y9k1 => (intro w hSw; go_simp; all_goals with_reducible rfl)
      (try simp only [Act.put, List.setIfInBounds_toArray, List.set_cons_zero, List.set_cons_succ])
      refine take_want (i := 10) (v := ?v10k1) rfl (by kernel_rfl) (by kernel_rfl) (by kernel_rfl) (fun _ _ _ h => h) (by rfl) ?y10k1 (by assumption) ?r10k1
      case y10k1 => (intro w hSw; obtain ⟨k0, k1, k2⟩ := HEC.out w hSw; go_simp; all_goals with_reducible rfl)
      (try simp only [Act.put, List.setIfInBounds_toArray, List.set_cons_zero, List.set_cons_succ])
      have HI := Lib.hid (HI.out.keep (below_drewN (Below.refl _ _) 1))
      have HD := Lib.hid (HD.out.keep (below_drewN (Below.refl _ _) 1))
      have HC := Lib.hid (HC.out.keep (below_drewN (Below.refl _ _) 1))
      have HWS := Lib.hid (HWS.out.keep (below_drewN (Below.refl _ _) 1))
      refine wpAnyH_ready (rs := [5]) (by kernel_rfl) (by simp) ?_
      refine AllReadyH.cons rfl (fun K hK => ?_) AllReadyH.nil
      go_simp
      (go_at_call 18; refine (HADD.out _ hHeld HI.out).mono ?_; rintro e wa ⟨rfl, hiwa, hkwa⟩)
      have HDa := Lib.hid (HD.out.kx HI.out hkwa)
      have HCa := Lib.hid (HC.out.other HI.out (fun e => HNE.out.1 e.symm) (fun e => HNE.out.2 e.symm) hkwa)
      have HWa := Lib.hid (HWS.out.kx HI.out hkwa)
      have hbwa : Below w.heap.size w wa := hHeld.trans (hkwa.below (by have := HI.out.lx; omega) (by have := HI.out.lm; omega) hHeld.size)
      have HIa := Lib.hid hiwa
      refine hK.out _ _ hbwa (fun hHeld => ?_)
      clear hK K
      (try simp only [Act.put, List.setIfInBounds_toArray, List.set_cons_zero, List.set_cons_succ])
      clear hiwa hkwa HI HD HC HWS
      have HI := HIa
      have HD := HDa
      have HC := HCa
      have HWS := HWa
      clear HIa HDa HCa HWa
      refine wpAnyH_ready (rs := [11]) (by kernel_rfl) (by simp) ?_
      refine AllReadyH.cons rfl (fun K hK => ?_) AllReadyH.nil
      go_simp
      (go_at_call 19; refine (HRADD.out _ hHeld HD.out).mono ?_; rintro e wb ⟨rfl, hiwb, hkwb⟩)
      obtain ⟨csD, hbD⟩ := HD.out.blk51
      have HIa := Lib.hid (HI.out.near hbD hkwb)
      have HCa := Lib.hid (HC.out.near hbD hkwb)
      have HWa := Lib.hid (HWS.out.near hbD hkwb)
      have hbwb : Below w.heap.size w wb := hHeld.trans (hkwb.below (by have := HD.out.lx; omega) (by have := hHeld.size; omega))
      have HDa := Lib.hid hiwb
      refine hK.out _ _ hbwb (fun hHeld => ?_)
      clear hK K
      (try simp only [Act.put, List.setIfInBounds_toArray, List.set_cons_zero, List.set_cons_succ])
      clear hiwb hkwb hbD HI HD HC HWS
      have HI := HIa
      have HD := HDa
      have HC := HCa
      have HWS := HWa
      clear HIa HDa HCa HWa
      refine take_want (i := 12) (v := ?v12k1) rfl (by kernel_rfl) (by kernel_rfl) (by kernel_rfl) (fun _ _ _ h => h) (by rfl) ?y12k1 (by assumption) ?r12k1
      case y12k1 => (intro w hSw; go_simp; all_goals with_reducible rfl)
      (try simp only [Act.put, List.setIfInBounds_toArray, List.set_cons_zero, List.set_cons_succ])
      refine wpAnyH_done (by kernel_rfl) ?_ _
      go_wp2_with fail
      go_meet
      exact ⟨by simp, HI, HD, HC, HWS, Lib.hid hHeld⟩
    case rest =>
    obtain ⟨rfl, HI, HD, HC, HWS, HB8⟩ := hcut
    obtain ⟨w8, hw8⟩ : ∃ W, W = wc := ⟨_, rfl⟩
    subst hw8
    obtain ⟨n2, hn2⟩ : ∃ q : Nat, q = if av = 0 then nn + 1 else nn := ⟨_, rfl⟩
    rw [← hn2] at HI HSC2
    have hn2i : n2 ≤ i + 1 := by rw [hn2]; split <;> omega
    have hn26 : n2 ≤ 1000000 := by omega
    have hv2l : V2.length ≤ 9223372036854775807 := by have := HI.out.len; omega
    clear hn2 HADD HRADD HEC HRX
    obtain ⟨DA, dn, dc, DE, dm, dd, RD, kD, ZD, hbD, -, -, -, -, hZV, hRC⟩ := HD.out.blk
    have HDC := Lib.hid (fun W (hW : Below w8.heap.size w8 W) => show W.cell? ⟨dx, 0, none⟩ = some (.slice DA dn dc) ∧ W.cell? ⟨dx, 1, none⟩ = some (.slice DE dm dd) ∧ W.cell? ⟨dx, 2, none⟩ = some (.int .i64 g) ∧ W.cell? ⟨dx, 3, none⟩ = some (.slice RD V2.length kD) from by
      have hk := hbD.grown (grown_none hW) (by simp)
      exact ⟨blk_get hk rfl, blk_get hk rfl, blk_get hk rfl, blk_get hk rfl⟩)
    have HDM := Lib.hid (fun W (hW : Below w8.heap.size w8 W) => show RowsM W RD V2 from by
      have h := (hRC.keep hW).rowsM
      rwa [hZV] at h)
    clear hbD hZV hRC
    go_upto_region 15 with fail
    go_cut [15] (fun s15 wx => s15 = .bool true ∧ Hid (Below w8.heap.size w8 wx))
    case first =>
      refine wp_region_held_drew (S := fun W => Below w8.heap.size w8 W) (by kernel_rfl) (below_drewN (Below.refl _ _) 1) ?_
      intro hHeld
      refine take_want (i := 0) (v := ?v0k2) rfl (by kernel_rfl) (by kernel_rfl) (by kernel_rfl) (fun _ _ _ h => h) (by rfl) ?y0k2 (by assumption) ?r0k2
      case y0k2 => (intro w hSw; go_simp; all_goals with_reducible rfl)
      (try simp only [Act.put, List.setIfInBounds_toArray, List.set_cons_zero, List.set_cons_succ])
      refine take_want (i := 2) (v := ?v2k2) rfl (by kernel_rfl) (by kernel_rfl) (by kernel_rfl) (fun _ _ _ h => h) (by rfl) ?y2k2 (by assumption) ?r2k2
      case y2k2 => (intro w hSw; go_simp; all_goals with_reducible rfl)
      (try simp only [Act.put, List.setIfInBounds_toArray, List.set_cons_zero, List.set_cons_succ])
      refine take_want (i := 3) (v := ?v3k2) rfl (by kernel_rfl) (by kernel_rfl) (by kernel_rfl) (fun _ _ _ h => h) (by rfl) ?y3k2 (by assumption) ?r3k2
      case y3k2 => (intro w hSw; obtain ⟨k0, k1, k2, k3⟩ := HDC.out w hSw; go_simp; all_goals with_reducible rfl)
      (try simp only [Act.put, List.setIfInBounds_toArray, List.set_cons_zero, List.set_cons_succ])
      refine take_want (i := 4) (v := ?v4k2) rfl (by kernel_rfl) (by kernel_rfl) (by kernel_rfl) (fun _ _ _ h => h) (by rfl) ?y4k2 (by assumption) ?r4k2
      case y4k2 => (intro w hSw; obtain ⟨k0, k1, k2, k3⟩ := HDC.out w hSw; go_simp; all_goals with_reducible rfl)
      (try simp only [Act.put, List.setIfInBounds_toArray, List.set_cons_zero, List.set_cons_succ])
      refine take_want (i := 5) (v := ?v5k2) rfl (by kernel_rfl) (by kernel_rfl) (by kernel_rfl) (fun _ _ _ h => h) (by rfl) ?y5k2 (by assumption) ?r5k2
      case y5k2 => (intro w hSw; obtain ⟨k0, k1, k2, k3⟩ := HDC.out w hSw; go_simp; all_goals with_reducible rfl)
      (try simp only [Act.put, List.setIfInBounds_toArray, List.set_cons_zero, List.set_cons_succ])
      refine wpAnyH_ready (rs := [1]) (by kernel_rfl) (by simp) ?_
      refine AllReadyH.cons rfl (fun K hK => ?_) AllReadyH.nil
      go_simp
      (go_at_call 17; refine (rows_any (HI.out.keep hHeld) hn26).mono ?_; rintro e w10 ⟨A9, c9, Y9, rfl, ho9, hy9, hw9, hb9⟩)
      have hb10 : Below w8.heap.size w8 w10 := bthen hHeld hb9
      have HW9 := Lib.hid (show Was w10 A9 c9 V2 from ⟨_, Y9, ho9, hy9, hw9⟩)
      refine hK.out _ _ hb10 (fun hHeld => ?_)
      clear hK K
      (try simp only [Act.put, List.setIfInBounds_toArray, List.set_cons_zero, List.set_cons_succ])
      clear ho9 hy9 hw9 hb9
      refine wpAnyH_ready (rs := [6]) (by kernel_rfl) (by simp) ?_
      refine AllReadyH.cons rfl (fun K hK => ?_) AllReadyH.nil
      go_simp
      (go_at_call 20; refine (refrows_any A9 RD V2.length c9 V2.length kD V2 V2 w10 HW9.out.rowsM (HDM.out _ hb10) rfl rfl hv2l hv2l true (by simp)).mono ?_; rintro e w11 ⟨rfl, hb11⟩)
      have hb12 := bthen hb10 hb11
      refine hK.out _ _ (hb12) (fun hHeld => ?_)
      clear hK K
      (try simp only [Act.put, List.setIfInBounds_toArray, List.set_cons_zero, List.set_cons_succ])
      refine take_want (i := 7) (v := ?v7k2) rfl (by kernel_rfl) (by kernel_rfl) (by kernel_rfl) (fun _ _ _ h => h) (by rfl) ?y7k2 (by assumption) ?r7k2
      case y7k2 => (intro w hSw; go_simp; all_goals with_reducible rfl)
      (try simp only [Act.put, List.setIfInBounds_toArray, List.set_cons_zero, List.set_cons_succ])
      refine wpAnyH_done (by kernel_rfl) ?_ _
      go_wp2_with fail
      go_meet
      exact ⟨rfl, Lib.hid hHeld⟩
    case rest =>
    obtain ⟨rfl, HB12⟩ := hcut
    obtain ⟨w12, hw12⟩ : ∃ W, W = wc := ⟨_, rfl⟩
    subst hw12
    have HC := Lib.hid (HC.out.keep HB12.out)
    have HWS := Lib.hid (HWS.out.keep HB12.out)
    go_upto_region 17 with (first
      | (go_at_call 17; refine (rows_any HC.out (by omega)).mono ?_; rintro e w13 ⟨A13, c13, Y13, rfl, ho13, hy13, hw13, hb13⟩; have HW13 := Lib.hid (show Was w13 A13 c13 V from ⟨_, Y13, ho13, hy13, hw13⟩); have HWS := Lib.hid (HWS.out.keep hb13); have HB13 := Lib.hid (bthen HB12.out hb13); clear ho13 hy13 hw13 hb13)
      | (go_at_call 20; refine (refrows_any A13 A5 V.length c13 V.length c5 V V _ HW13.out.rowsM HWS.out.rowsM rfl rfl (by omega) (by omega) true (by simp)).mono ?_; rintro e w14 ⟨rfl, hb14⟩; have HB14 := Lib.hid (bthen HB13.out hb14); clear hb14))
    have HI14 := Lib.hid (HI.out.keep HB14.out)
    have HD14 := Lib.hid (HD.out.keep HB14.out)
    have HLEN := Lib.hid (fun q => len_any (HI14.out.keep (below_drewN (Below.refl _ _) q)))
    have HCNT := Lib.hid (fun q => count_any (HI14.out.keep (below_drewN (Below.refl _ _) q)))
    have HRCN := Lib.hid (fun q => refcount_any (q := M.length) (HD14.out.keep (below_drewN (Below.refl _ _) q)) HST2.out.2 (by have := HI.out.len; omega))
    rw [HSC2.out] at HRCN
    have d1 : (((V2.length : Nat) : Int) != ((V2.length : Nat) : Int)) = false := by simp
    have d2 : ((n2 : Int) != (n2 : Int)) = false := by simp
    have HBE := Lib.hid (HB8.out.trans (HB14.out.mono HB8.out.size))
    obtain ⟨q0, q1, q2, q3⟩ := HDC.out w14 HB14.out
    go_quiet (first
      | (go_at_call 21; exact Calls.quiet_of_same (HLEN.out _))
      | (go_at_call 22; exact Calls.quiet_of_same (HCNT.out _))
      | (go_at_call 23; exact Calls.quiet_of_same (HRCN.out _)))
    clear q0 q1 q2 q3
    go_wp2_with fail
    go_roundw
    case rel => exact ⟨i + 1, V2, n2, by go_num, by have := HLT.out; omega, hn2i, Lib.hid (HI14.out.keep (below_drewN (Below.refl _ _) _)), Lib.hid (HD14.out.keep (below_drewN (Below.refl _ _) _)), HSC2, Lib.hid (below_drewN HBE.out _)⟩
    case measure => have := HLT.out; simp [intOf]; omega
end Go.Proofs.YtmmeekmiildliaaGreatDoor
