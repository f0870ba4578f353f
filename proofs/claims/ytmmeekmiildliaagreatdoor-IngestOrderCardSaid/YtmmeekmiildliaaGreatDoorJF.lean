/- The walk of IngestBuckets (7). -/
import Derived.Test.YtmmeekmiildliaaGreatDoorJE
import Derived.Test.YtmmeekmiildliaaGreatDoorJP
import Derived.Test.YtmmeekmiildliaaGreatDoorIR
import Derived.BigQuiet
namespace Go.Proofs.YtmmeekmiildliaaGreatDoor
open Go.RowKit
set_option linter.unusedSimpArgs false
set_option linter.unusedVariables false
set_option maxRecDepth 100000 in
set_option maxHeartbeats 16000000 in
theorem new_bad (A E : Option Addr) (n c m d : Nat) (g : Int) (L M : List ByteArray) (w : World) (hA : Row w A (texts L)) (hB : Row w E (texts M)) (hn : n = L.length) (hm : m = M.length) (hnc : n ≤ c) (hmd : m ≤ d) (ha : A = none → c = 0) (hb : E = none → d = 0)
    (hL : ∀ s ∈ L, s.size ≤ 9223372036854775807) (hM : ∀ s ∈ M, s.size ≤ 9223372036854775807) (hn2 : n ≤ 9223372036854775807) (hm2 : m ≤ 9223372036854775807) (hnr : ¬ rightP L M) :
    Calls Tryz.prog 14 #[.agg #[.slice A n c, .slice E m d], .int .i64 g] w fun e w' => e = .returned (.tuple #[.pointer none, .int .i64 101]) ∧ Below w.heap.size w w' := by
  obtain ⟨W0, hW0⟩ : ∃ W0, W0 = w.alloc (.cells #[.slice A n c, .slice E m d] 24) := ⟨_, rfl⟩
  have hb0 : Below w.heap.size w W0 := by rw [hW0]; exact bpush (Below.refl _ _) _
  have HRT := Lib.hid (sright_any A E n c m d L M W0 (hA.keep (Nat.le_refl _) hb0) (hB.keep (Nat.le_refl _) hb0) hn hm hnc hmd ha hb hL hM hn2 hm2 false (by simp [hnr]))
  have HW0 := Lib.hid hW0
  have HB0 := Lib.hid hb0
  have s0 : W0.cell? ⟨w.heap.size, 0, none⟩ = some (.slice A n c) := by rw [hW0]; exact cell_made rfl rfl
  have s1 : W0.cell? ⟨w.heap.size, 1, none⟩ = some (.slice E m d) := by rw [hW0]; exact cell_made rfl rfl
  clear hA hB hn hm hnc hmd ha hb hL hM hW0 hb0 hnr
  go_enter Tryz.func14, Tryz.ntmps14
  go_upto_region 1 with fail
  rw [← HW0.out]
  go_wp2_with (go_at_call 34; refine HRT.out.mono ?_; rintro e w1 ⟨rfl, hb⟩; have HBB := Lib.hid hb; clear hb)
  refine bodyPost_ret (v := .tuple #[.pointer none, .int .i64 101]) (by simp [results, Tryz.results14, go_sem]) rfl ?_
  exact ⟨rfl, bthen HB0.out HBB.out⟩
theorem new_all (A E : Option Addr) (n c m d : Nat) (g : Int) (L M : List ByteArray) (w : World) (hA : Row w A (texts L)) (hB : Row w E (texts M)) (hn : n = L.length) (hm : m = M.length) (hnc : n ≤ c) (hmd : m ≤ d) (ha : A = none → c = 0) (hb : E = none → d = 0)
    (hL : ∀ s ∈ L, s.size ≤ 9223372036854775807) (hM : ∀ s ∈ M, s.size ≤ 9223372036854775807) (hn2 : n ≤ 9223372036854775807) (hm2 : m ≤ 9223372036854775807) (x : Int) (hx : newE L M g x) :
    Calls Tryz.prog 14 #[.agg #[.slice A n c, .slice E m d], .int .i64 g] w (NewPost w g L M x) := by
  by_cases hr : rightP L M
  · have h1 := hr.2.1
    have h2 := hr.2.2.1
    exact new_any A E n c m d g L M w hA hB hn hm hnc hmd ha hb hL hM (by omega) (by omega) x hx
  · have hx1 : x = 101 := by rcases hx with ⟨_, h⟩ | ⟨h, _⟩ | ⟨h, _⟩; exact h; exact absurd h hr; exact absurd h hr
    subst hx1
    exact (new_bad A E n c m d g L M w hA hB hn hm hnc hmd ha hb hL hM hn2 hm2 hr).mono fun e w' ⟨he, hb⟩ => ⟨.inl ⟨by decide, he⟩, hb⟩
theorem NewPost.any {w w' : World} {g x : Int} {L M : List ByteArray} {e : Ending} (h : NewPost w g L M x e w') : ∃ p, e = .returned (.tuple #[.pointer p, .int .i64 x]) ∧ Below w.heap.size w w' := by
  obtain ⟨⟨_, rfl⟩ | ⟨rfl, bx, mb, rfl, _⟩, hb⟩ := h
  · exact ⟨_, rfl, hb⟩
  · exact ⟨_, rfl, hb⟩
theorem NewPost.ix {w w' : World} {g : Int} {L M : List ByteArray} {e : Ending} (h : NewPost w g L M 0 e w') : ∃ bx mb, e = .returned (.tuple #[.pointer (some ⟨bx, 0, none⟩), .int .i64 0]) ∧ Ix w' w.heap.size bx mb g L M [] 0 ∧ Below w.heap.size w w' := by
  obtain ⟨⟨h, _⟩ | ⟨_, bx, mb, rfl, hi⟩, hb⟩ := h
  · exact absurd rfl h
  · exact ⟨bx, mb, rfl, hi, hb⟩
theorem Ix.strict7 {w : World} {B bx mb nn : Nat} {g : Int} {L M : List ByteArray} {V : List RV} (h : Ix w B bx mb g L M V nn) : Strict V := by
  obtain ⟨D, Z, hown, hD, hV, hO⟩ := h.rows
  exact hV.strict
theorem projR_bk {L : List ByteArray} {I : List Nat} {g : Int} {r : RV} (h : PlcIs L L I) (hl : I.length = L.length) (ha : apartP L) (hd : r.dims.length = L.length) : projR g I r = bkR g r := by
  unfold projR bkR
  rw [pickL_range _ _ (by rw [plc_self h hl ha, hd])]
set_option maxRecDepth 100000 in
set_option maxHeartbeats 16000000 in
theorem buckets_walk (A E VA : Option Addr) (n c m d l lc : Nat) (g : Int) (L M : List ByteArray) (Z : List EV) (w : World) (hT : Tab w) (hA : Row w A (texts L)) (hB : Row w E (texts M)) (hZ : EvsC w VA Z) (hn : n = L.length) (hm : m = M.length) (hl : l = Z.length) (hnc : n ≤ c) (hmd : m ≤ d) (ha : A = none → c = 0) (hb : E = none → d = 0)
    (hL : ∀ s ∈ L, s.size ≤ 9223372036854775807) (hM : ∀ s ∈ M, s.size ≤ 9223372036854775807) (hn2 : n ≤ 9223372036854775807) (hm2 : m ≤ 9223372036854775807) (hl2 : l ≤ 9223372036854775807) (hp2 : ∀ z ∈ Z, z.p ≤ 9223372036854775807 ∧ z.x ≤ 9223372036854775807) :
    Calls Tryz.prog 7 #[.agg #[.slice A n c, .slice E m d], .int .i64 g, .slice VA l lc] w fun e w' => e = .returned (.bool true) ∧ Below w.heap.size w w' := by
  obtain ⟨W0, hW0⟩ : ∃ W0, W0 = w.alloc (.cells #[.slice A n c, .slice E m d] 24) := ⟨_, rfl⟩
  have hb0 : Below w.heap.size w W0 := by rw [hW0]; exact bpush (Below.refl _ _) _
  have HSC0 := Lib.hid (show ∀ W, Below W0.heap.size W0 W → W.cell? ⟨w.heap.size, 0, none⟩ = some (.slice A n c) ∧ W.cell? ⟨w.heap.size, 1, none⟩ = some (.slice E m d) from fun W hW => ⟨cell_on hW (by rw [hW0]; exact cell_made rfl rfl), cell_on hW (by rw [hW0]; exact cell_made rfl rfl)⟩)
  obtain ⟨r, hr⟩ := bool_of (FitsE L M Z)
  have HF := Lib.hid (fitsev_any A E VA n c m d l lc L M Z W0 (hA.keep (Nat.le_refl _) hb0) (hB.keep (Nat.le_refl _) hb0) (hZ.keep (Nat.le_refl _) hb0) hn hm hl hn2 hm2 hl2 hp2 r hr)
  obtain ⟨x, hx⟩ := newE_ex L M g
  obtain ⟨x1, hx1⟩ := newE_ex L M 1
  have HN1 := Lib.hid (fun W (hW : Below w.heap.size w W) => new_all A E n c m d g L M W (hA.keep (Nat.le_refl _) hW) (hB.keep (Nat.le_refl _) hW) hn hm hnc hmd ha hb hL hM hn2 hm2 x hx)
  have HN2 := Lib.hid (fun W (hW : Below w.heap.size w W) => new_all A E n c m d 1 L M W (hA.keep (Nat.le_refl _) hW) (hB.keep (Nat.le_refl _) hW) hn hm hnc hmd ha hb hL hM hn2 hm2 x1 hx1)
  have HX1 := Lib.hid (show x = 0 → x1 = 0 from fun e => by
    rcases hx with ⟨_, h⟩ | ⟨_, _, h⟩ | ⟨h1, h2, _⟩
    · omega
    · omega
    · rcases hx1 with ⟨h, _⟩ | ⟨_, h, _⟩ | ⟨_, _, h⟩
      · exact absurd h1 h
      · exact absurd (show okGran 1 from ⟨by decide, by decide⟩) h
      · exact h)
  have HT := Lib.hid hT
  have HAA := Lib.hid hA
  have HZZ := Lib.hid hZ
  have HNL := Lib.hid hn
  have HMM := Lib.hid hm
  have HLL := Lib.hid hl
  have HR := Lib.hid hr
  have HB0 := Lib.hid hb0
  have HW0 := Lib.hid hW0
  obtain ⟨s0, s1⟩ := HSC0.out W0 (Below.refl _ _)
  clear hT hA hB hZ hn hm hl hnc hmd ha hb hL hM hn2 hm2 hl2 hp2 hr hW0 hb0 hx hx1
  go_enter Tryz.func7, Tryz.ntmps7
  go_upto_region 1 with fail
  rw [← HW0.out]
  clear HW0
  go_upto_region 2 with (go_at_call 8; refine HF.out.mono ?_; rintro e w1 ⟨rfl, hb1⟩)
  have HB1 := Lib.hid (bthen HB0.out hb1)
  have HBW1 := Lib.hid hb1
  obtain ⟨s0, s1⟩ := HSC0.out w1 hb1
  clear hb1 HF
  by_cases hgo : r = true ∧ x = 0
  case neg =>
    have z0 : r = false ∨ (x != 0) = true := by
      cases r with
      | false => exact .inl rfl
      | true => exact .inr (by rw [bne_iff_ne]; exact fun e => hgo ⟨rfl, e⟩)
    clear hgo
    go_upto_region 4 with (first
      | (go_at_call 14; with_reducible refine (HN1.out _ HB1.out).mono ?_; rintro e w2 h2; obtain ⟨p2, rfl, hb2⟩ := h2.any; clear h2; have HB2 := Lib.hid (bthen HB1.out hb2); have HBW2 := Lib.hid (HBW1.out.trans (hb2.mono HBW1.out.size)); obtain ⟨s0, s1⟩ := HSC0.out w2 HBW2.out; clear hb2)
      | (go_at_call 14; refine (HN2.out _ HB2.out).mono ?_; rintro e w3 h3; obtain ⟨p3, rfl, hb3⟩ := h3.any; clear h3; have HB3 := Lib.hid (bthen HB2.out hb3); clear hb3))
    rcases z0 with rfl | z0
    · go_wp2_with (go_at_call 10; refine (alive_any _ (HT.out.keep HB3.out)).mono ?_; rintro e w4 ⟨rfl, hb4⟩)
      go_ret
      exact ⟨rfl, bthen HB3.out hb4⟩
    · cases r with
      | false =>
        go_wp2_with (go_at_call 10; refine (alive_any _ (HT.out.keep HB3.out)).mono ?_; rintro e w4 ⟨rfl, hb4⟩)
        go_ret
        exact ⟨rfl, bthen HB3.out hb4⟩
      | true =>
        go_wp2_with (go_at_call 10; refine (alive_any _ (HT.out.keep HB3.out)).mono ?_; rintro e w4 ⟨rfl, hb4⟩)
        go_ret
        exact ⟨rfl, bthen HB3.out hb4⟩
  case pos =>
  obtain ⟨rfl, rfl⟩ := hgo
  obtain rfl : x1 = 0 := HX1.out rfl
  have HFT := Lib.hid (HR.out.1 rfl)
  have hn20 : n ≤ 20 := by have := HFT.out.l.1; have := HNL.out; omega
  have hm20 : m ≤ 20 := by have := HFT.out.m.1; have := HMM.out; omega
  have hl60 : l ≤ 60 := by have := HFT.out.n; have := HLL.out; omega
  go_upto_region 6 with (first
      | (go_at_call 14; with_reducible refine (HN1.out _ HB1.out).mono ?_; rintro e w2 h2; obtain ⟨bx, mb, rfl, hix, hb2⟩ := h2.ix; clear h2; have HX := Lib.hid hix; have HB2 := Lib.hid (bthen HB1.out hb2); have HBW2 := Lib.hid (HBW1.out.trans (hb2.mono HBW1.out.size)); obtain ⟨s0, s1⟩ := HSC0.out w2 HBW2.out; clear hb2 hix)
      | (go_at_call 14; refine (HN2.out _ HB2.out).mono ?_; rintro e w3 h3; obtain ⟨by_, my, rfl, hiy, hb3⟩ := h3.ix; clear h3; have HNE := Lib.hid (show bx ≠ by_ ∧ mb ≠ my from by have h1 := hiy.lx; have h2 := hiy.lm; have h := HX.out.lts; exact ⟨by omega, by omega⟩); have HX := Lib.hid (HX.out.keep hb3); have HY := Lib.hid hiy; have HB3 := Lib.hid (bthen HB2.out hb3); have HBW3 := Lib.hid (HBW2.out.trans (hb3.mono HBW2.out.size)); clear hb3 hiy))
  have HGR := Lib.hid HX.out.gran
  have HSCH := Lib.hid HX.out.sch
  have hz1 := HB1.out.size
  have hz2 := HB2.out.size
  clear HN1 HN2 s0 s1 HX1 HR
  have HADD := Lib.hid (fun (B bx mb : Nat) (g : Int) (i : Nat) (hi : i < Z.length) (V : List RV) (nn : Nat) (hnn : nn ≤ 60) (v : Int) (hv : CheckIs L M Z[i].D Z[i].X Z[i].t v) (W : World) (hW : Below w.heap.size w W) (hI : Ix W B bx mb g L M V nn) => add_any B bx mb nn g L M V Z[i].E Z[i].F Z[i].p Z[i].q Z[i].x Z[i].y Z[i].t Z[i].D Z[i].X W hI (by omega) (HT.out.keep hW)
    ((HZZ.out.good _ (List.getElem_mem hi)).rd.keep (Nat.le_refl _) hW) ((HZZ.out.good _ (List.getElem_mem hi)).rx.keep (Nat.le_refl _) hW) (HZZ.out.good _ (List.getElem_mem hi)).nd (HZZ.out.good _ (List.getElem_mem hi)).nx (HZZ.out.good _ (List.getElem_mem hi)).sd (HZZ.out.good _ (List.getElem_mem hi)).cd (HZZ.out.good _ (List.getElem_mem hi)).ad
    (by have h1 := (HFT.out.ev _ (List.getElem_mem hi)).1.1; have h2 := (HZZ.out.good _ (List.getElem_mem hi)).nd; omega) (by have h1 := (HFT.out.ev _ (List.getElem_mem hi)).2; have h2 := (HZZ.out.good _ (List.getElem_mem hi)).nx; omega) v hv)
  go_wp2_with fail
  go_loopw [12, 13, 14, 15] (fun v12 v13 _ _ wr => ∃ (k i : Nat) (U V : List RV), v12 = .int .i64 (k : Int) ∧ v13 = .int .i64 (i : Int) ∧ i ≤ l ∧ k ≤ i ∧ Hid (Ix wr w1.heap.size bx mb g L M U k) ∧ Hid (Ix wr w2.heap.size by_ my 1 L M V k) ∧ Hid (Both M.length g U V) ∧ Hid (Below w.heap.size w wr) ∧ Hid (Below W0.heap.size W0 wr)) (fun _ v13 _ _ _ => l - (intOf v13).toNat)
  case atStart => exact ⟨0, 0, [], [], rfl, rfl, Nat.zero_le _, Nat.le_refl _, HX, HY, Lib.hid ⟨SumOf.nil, fun a ha => (by cases ha), fun a ha => (by cases ha)⟩, HB3, HBW3⟩
  case round =>
    obtain ⟨k, i, U, V, rfl, rfl, hi, hki, HX, HY, HBO, HBR, HBWR⟩ := hrel
    by_cases hlt : i < l
    case neg =>
      have hil : ¬ ((i : Int) < (l : Int)) := by omega
      clear hlt HADD
      have hul : U.length ≤ k := HX.out.len
      have hvl : V.length ≤ k := HY.out.len
      go_upto_region 19 with (go_at_call 17; refine (rows_any HX.out (by omega)).mono ?_; rintro e w5 ⟨A5, c5, Y5, rfl, ho5, hy5, hw5, hb5⟩)
      obtain ⟨-, A5', c5', e5, hr5, -, -, -⟩ := own_sliceR ho5
      cases e5
      have HR5 := Lib.hid (show RowsC w5 A5 Y5 from ⟨hr5, fun y hy => (hw5 y hy).good⟩)
      have HY5 := Lib.hid hy5
      have HX := Lib.hid (HX.out.keep hb5)
      have HY := Lib.hid (HY.out.keep hb5)
      have HB5 := Lib.hid (bthen HBR.out hb5)
      have HBW5 := Lib.hid (bthen HBWR.out hb5)
      obtain ⟨ul, hul2⟩ : ∃ ul, ul = U.length := ⟨_, rfl⟩
      have HUL := Lib.hid hul2
      have hul6 : ul ≤ 60 := by omega
      rw [← hul2]
      clear ho5 hy5 hw5 hb5 hr5 hul2 hul
      have hg1 := HGR.out.1
      have hg2 := HGR.out.2
      go_wp2_with fail
      go_loopw [17] (fun v17 wr => ∃ (j : Nat), v17 = .int .i64 (j : Int) ∧ j ≤ ul ∧ wr = w5) (fun v17 _ => ul - (intOf v17).toNat)
      case atStart => exact ⟨0, rfl, Nat.zero_le _, rfl⟩
      case round =>
        obtain ⟨j, rfl, hj, rfl⟩ := hrel
        by_cases hjl : j < ul
        case pos =>
          have hjk : (j : Int) < (ul : Int) := by omega
          have hj0 : (0 : Int) ≤ (j : Int) := by omega
          have hjU : j < U.length := by have := HUL.out; omega
          have hjY : j < Y5.length := by have := congrArg List.length HY5.out; rw [List.length_map] at this; omega
          obtain ⟨b5, o5, rfl, k0, k1, k2, k3⟩ := HR5.out.at hjY
          have hyu : Y5[j].2 ∈ U := by rw [← HY5.out]; exact List.mem_map_of_mem (List.getElem_mem hjY)
          obtain ⟨y, hy⟩ : ∃ y, y = Y5[j].2.t := ⟨_, rfl⟩
          have hy0 : 0 ≤ y := by rw [hy]; exact (HX.out.ok _ hyu).d.t
          have hym : y.tmod g = 0 := by rw [Int.tmod_eq_emod_of_nonneg hy0, hy]; exact HBO.out.u _ hyu
          rw [← hy] at k0
          have HJL := Lib.hid hjl
          have hg0 : g ≠ 0 := by omega
          clear hy hyu k1 k2 k3 hjl hjY hjU
          go_wp2_with fail
          go_roundw
          case rel => exact ⟨j + 1, by go_num, by have := HJL.out; omega, by first | rfl | trivial⟩
          case measure => have := HJL.out; simp [intOf]; omega
        case neg =>
        have hjk : ¬ ((j : Int) < (ul : Int)) := by omega
        clear hjl
        obtain ⟨w5, hw5⟩ : ∃ W, W = wr := ⟨_, rfl⟩
        subst hw5
        have HSC := Lib.hid (fun W (hW : Below w5.heap.size w5 W) => HSC0.out W (HBW5.out.trans (hW.mono HBW5.out.size)))
        have hnL : namesP L := by
          have h := HSCH.out.2.2.2
          exact names_left h
        have HNM := Lib.hid hnL
        have HVV := Lib.hid (fun (y : RV) (hy : y ∈ V) => show RowQ M.length L.length y ∧ 0 ≤ y.t ∧ y.t ≤ 1099511627776 from ⟨⟨(HY.out.ok y hy).r, (HY.out.ok y hy).d.len⟩, (HY.out.ok y hy).d.t, HBO.out.v y hy⟩)
        have HPR := Lib.hid (fun w6 (hW : Below w5.heap.size w5 w6) (A6 : Option Addr) (k6 c6 : Nat) (Y6 : List RZ) (hr : RowsC w6 A6 Y6) (hk : k6 = Y6.length) (hy : Y6.map Prod.snd = V) => refproject_any A E A6 A n c m d k6 c6 n c M.length g L L Y6 w6 (HAA.out.keep (Nat.le_refl _) (bthen HB5.out hW)) HNL.out (by omega) hr hk (by have := congrArg List.length hy; rw [List.length_map] at this; omega) (HAA.out.keep (Nat.le_refl _) (bthen HB5.out hW)) HNL.out (by omega) HNM.out (fun z hz => HVV.out z.2 (by rw [← hy]; exact List.mem_map_of_mem hz)))
        have HRPO := Lib.hid (show ∀ (w6 : World) (Y6 : List RZ) (e : Ending) (w7 : World), Y6.map Prod.snd = V → RProjPost w6 g L L Y6 e w7 → ∃ A9 Y9 c9 x9, e = .returned (.tuple #[.slice A9 (List.length Y9) c9, .int .i64 x9]) ∧ refF [] (V.map (bkR g)) = (Y9.map Prod.snd, x9) ∧ RowsC w7 A9 Y9 ∧ Below w6.heap.size w6 w7 from fun w6 Y6 e w7 hy h => by
          rcases h with ⟨h1, _⟩ | ⟨_, h1, _⟩ | ⟨_, _, I, hI, hIl, A9, c9, Y9, x9, he, hf, hr, hb⟩
          · exact absurd (sub_self HNM.out) h1
          · exact absurd HGR.out h1
          · refine ⟨A9, Y9, c9, x9, he, ?_, hr, hb⟩
            rw [← hf, ← hy, List.map_map]
            congr 1
            apply List.map_congr_left
            intro z hz
            exact (projR_bk hI hIl HNM.out.2 (HVV.out z.2 (by rw [← hy]; exact List.mem_map_of_mem hz)).1.dims).symm)
        go_upto_region 24 with fail
        go_cut [18, 19] (fun s18 s19 wx => ∃ (A9 : Option Addr) (Y9 : List RZ) (c9 : Nat) (x9 : Int), s18 = .slice A9 Y9.length c9 ∧ s19 = .int .i64 x9 ∧ Hid (refF [] (V.map (bkR g)) = (Y9.map Prod.snd, x9)) ∧ Hid (RowsC wx A9 Y9) ∧ Hid (Below w5.heap.size w5 wx))
        case first =>
          refine wp_region_held_drew (S := fun W => Below w5.heap.size w5 W) (by kernel_rfl) (below_drewN (Below.refl _ _) 1) ?_
          intro hHeld
          refine take_want (i := 0) (v := ?v0k1) rfl (by kernel_rfl) (by kernel_rfl) (by kernel_rfl) (fun _ _ _ h => h) (by rfl) ?y0k1 (by assumption) ?r0k1
          case y0k1 => (intro w hSw; obtain ⟨q0, q1⟩ := HSC.out w hSw; go_simp; all_goals with_reducible rfl)
          (try simp only [Act.put, List.setIfInBounds_toArray, List.set_cons_zero, List.set_cons_succ])
          refine take_want (i := 1) (v := ?v1k1) rfl (by kernel_rfl) (by kernel_rfl) (by kernel_rfl) (fun _ _ _ h => h) (by rfl) ?y1k1 (by assumption) ?r1k1
          case y1k1 => (intro w hSw; go_simp; all_goals with_reducible rfl)
          (try simp only [Act.put, List.setIfInBounds_toArray, List.set_cons_zero, List.set_cons_succ])
          refine take_want (i := 3) (v := ?v3k1) rfl (by kernel_rfl) (by kernel_rfl) (by kernel_rfl) (fun _ _ _ h => h) (by rfl) ?y3k1 (by assumption) ?r3k1
          case y3k1 => (intro w hSw; obtain ⟨q0, q1⟩ := HSC.out w hSw; go_simp; all_goals with_reducible rfl)
          (try simp only [Act.put, List.setIfInBounds_toArray, List.set_cons_zero, List.set_cons_succ])
          refine take_want (i := 4) (v := ?v4k1) rfl (by kernel_rfl) (by kernel_rfl) (by kernel_rfl) (fun _ _ _ h => h) (by rfl) ?y4k1 (by assumption) ?r4k1
          case y4k1 => (intro w hSw; obtain ⟨q0, q1⟩ := HSC.out w hSw; go_simp; all_goals with_reducible rfl)
          (try simp only [Act.put, List.setIfInBounds_toArray, List.set_cons_zero, List.set_cons_succ])
          refine take_want (i := 5) (v := ?v5k1) rfl (by kernel_rfl) (by kernel_rfl) (by kernel_rfl) (fun _ _ _ h => h) (by rfl) ?y5k1 (by assumption) ?r5k1
          case y5k1 => (intro w hSw; go_simp; all_goals with_reducible rfl)
          (try simp only [Act.put, List.setIfInBounds_toArray, List.set_cons_zero, List.set_cons_succ])
          refine wpAnyH_ready (rs := [2]) (by kernel_rfl) (by simp) ?_
          refine AllReadyH.cons rfl (fun K hK => ?_) AllReadyH.nil
          go_simp
          (go_at_call 17; refine (rows_any (HY.out.keep hHeld) (by omega)).mono ?_; rintro e w6 ⟨A6, c6, Y6, rfl, ho6, hy6, hw6, hb6⟩)
          have hb56 : Below w5.heap.size w5 w6 := bthen hHeld hb6
          obtain ⟨-, A6', c6', e6, hr6, -, -, -⟩ := own_sliceR ho6
          cases e6
          have HRC := Lib.hid (show RowsC w6 A6 Y6 from ⟨hr6, fun y hy => (hw6 y hy).good⟩)
          have HY6 := Lib.hid hy6
          refine hK.out _ _ hb56 (fun hHeld => ?_)
          clear hK K
          (try simp only [Act.put, List.setIfInBounds_toArray, List.set_cons_zero, List.set_cons_succ])
          clear ho6 hy6 hw6 hb6 hr6
          refine wpAnyH_ready (rs := [6]) (by kernel_rfl) (by simp) ?_
          refine AllReadyH.cons rfl (fun K hK => ?_) AllReadyH.nil
          go_simp
          (go_at_call 25; refine (HPR.out w6 hb56 A6 V.length c6 Y6 HRC.out (by rw [← HY6.out, List.length_map]) HY6.out).mono ?_; rintro e w7 h)
          obtain ⟨A9, Y9, c9, x9, rfl, hf9, hr9, hb9⟩ := HRPO.out _ _ _ _ HY6.out h
          have hb57 := bthen hb56 hb9
          have HF9 := Lib.hid hf9
          have HR9 := Lib.hid hr9
          refine hK.out _ _ hb57 (fun hHeld => ?_)
          clear hK K
          (try simp only [Act.put, List.setIfInBounds_toArray, List.set_cons_zero, List.set_cons_succ])
          clear hf9 hr9 hb9 h
          refine take_want (i := 7) (v := ?v7k1) rfl (by kernel_rfl) (by kernel_rfl) (by kernel_rfl) (fun _ _ _ h => h) (by rfl) ?y7k1 (by assumption) ?r7k1
          case y7k1 => (intro w hSw; go_simp; all_goals with_reducible rfl)
          (try simp only [Act.put, List.setIfInBounds_toArray, List.set_cons_zero, List.set_cons_succ])
          refine take_want (i := 8) (v := ?v8k1) rfl (by kernel_rfl) (by kernel_rfl) (by kernel_rfl) (fun _ _ _ h => h) (by rfl) ?y8k1 (by assumption) ?r8k1
          case y8k1 => (intro w hSw; go_simp; all_goals with_reducible rfl)
          (try simp only [Act.put, List.setIfInBounds_toArray, List.set_cons_zero, List.set_cons_succ])
          refine take_want (i := 9) (v := ?v9k1) rfl (by kernel_rfl) (by kernel_rfl) (by kernel_rfl) (fun _ _ _ h => h) (by rfl) ?y9k1 (by assumption) ?r9k1
          case y9k1 => (intro w hSw; go_simp; all_goals with_reducible rfl)
          (try simp only [Act.put, List.setIfInBounds_toArray, List.set_cons_zero, List.set_cons_succ])
          refine take_want (i := 10) (v := ?v10k1) rfl (by kernel_rfl) (by kernel_rfl) (by kernel_rfl) (fun _ _ _ h => h) (by rfl) ?y10k1 (by assumption) ?r10k1
          case y10k1 => (intro w hSw; go_simp; all_goals with_reducible rfl)
          (try simp only [Act.put, List.setIfInBounds_toArray, List.set_cons_zero, List.set_cons_succ])
          refine take_want (i := 11) (v := ?v11k1) rfl (by kernel_rfl) (by kernel_rfl) (by kernel_rfl) (fun _ _ _ h => h) (by rfl) ?y11k1 (by assumption) ?r11k1
          case y11k1 => (intro w hSw; go_simp; all_goals with_reducible rfl)
          (try simp only [Act.put, List.setIfInBounds_toArray, List.set_cons_zero, List.set_cons_succ])
          refine wpAnyH_done (by kernel_rfl) ?_ _
          go_wp2_with fail
          go_meet
          exact ⟨A9, Y9, c9, x9, rfl, rfl, HF9, HR9, Lib.hid hHeld⟩
        case rest =>
        obtain ⟨A9, Y9, c9, x9, rfl, rfl, HF9, HR9, HB59⟩ := hcut
        obtain ⟨w9, hw9⟩ : ∃ W, W = wc := ⟨_, rfl⟩
        subst hw9
        have hKB : ∀ a ∈ V.map (bkR g), OkR M.length a := fun a ha => by
          obtain ⟨b, hb, rfl⟩ := List.mem_map.1 ha
          have h := (HVV.out b hb).1.ok
          exact ⟨h.lo, h.hi, h.len, h.aggs⟩
        have HR59 := Lib.hid (show RowsM w9 A5 U from by have h := (HR5.out.keep HB59.out).rowsM; rwa [HY5.out] at h)
        have HB9 := Lib.hid (bthen HB5.out HB59.out)
        have HX9 := Lib.hid (HX.out.keep HB59.out)
        have HY9 := Lib.hid (HY.out.keep HB59.out)
        obtain ⟨yl, hyl⟩ : ∃ yl, yl = Y9.length := ⟨_, rfl⟩
        by_cases hx9 : x9 = 0
        case pos =>
          subst hx9
          have hUY : U = Y9.map Prod.snd := HBO.out.sum.uniq (fold_of_ref HF9.out hKB).sum (List.Perm.refl _)
          have hyu : yl = ul := by rw [hyl, HUL.out, hUY, List.length_map]
          have HSM := Lib.hid (refrows_any A5 A9 ul c5 yl c9 U (Y9.map Prod.snd) w9 HR59.out HR9.out.rowsM HUL.out (by rw [hyl, List.length_map]) (by omega) (by omega) true (by simp [hUY]))
          have e1 : ((k : Int) == (k : Int)) = true := by simp
          rw [← hyl]
          clear hUY hyu hKB hyl
          go_wp2_with (first
            | (go_at_call 20; refine HSM.out.mono ?_; rintro e w10 ⟨rfl, hb10⟩; have HX10 := Lib.hid (HX9.out.keep hb10); have HY10 := Lib.hid (HY9.out.keep hb10); have HB10 := Lib.hid (bthen HB9.out hb10); clear hb10)
            | (go_at_call 10; refine (alive_any _ (HT.out.keep HB10.out)).mono ?_; rintro e w11 ⟨rfl, hb11⟩; have HX11 := Lib.hid (HX10.out.keep hb11); have HY11 := Lib.hid (HY10.out.keep hb11); have HB11 := Lib.hid (bthen HB10.out hb11); clear hb11)
            | (go_at_call 22; with_reducible refine (count_any HX11.out).mono ?_; rintro e w12 ⟨rfl, rfl⟩)
            | (go_at_call 22; with_reducible refine (count_any HY11.out).mono ?_; rintro e w12 ⟨rfl, rfl⟩))
          go_ret
          exact ⟨rfl, HB11.out⟩
        case neg =>
          have z9 : (x9 != 0) = true := by rw [bne_iff_ne]; exact hx9
          have hyn : Y9 = [] := by
            rcases refF_all (q := M.length) (V.map (bkR g)) [] [] FoldOf.nil (fun a ha => absurd ha List.not_mem_nil) (fun a ha => absurd ha List.not_mem_nil) hKB with ⟨h1, _⟩ | ⟨_, h2, _⟩
            · rw [HF9.out] at h1; exact absurd h1 hx9
            · rw [HF9.out] at h2; exact List.map_eq_nil_iff.1 h2
          have hy0 : yl = 0 := by rw [hyl, hyn]; rfl
          obtain ⟨r2, hr2⟩ := bool_of (U = Y9.map Prod.snd)
          have HSM := Lib.hid (refrows_any A5 A9 ul c5 yl c9 U (Y9.map Prod.snd) w9 HR59.out HR9.out.rowsM HUL.out (by rw [hyl, List.length_map]) (by omega) (by omega) r2 hr2)
          have e1 : ((k : Int) == (k : Int)) = true := by simp
          rw [← hyl]
          clear hyn hy0 hr2 hx9 hKB hyl
          go_wp2_with (first
            | (go_at_call 20; refine HSM.out.mono ?_; rintro e w10 ⟨rfl, hb10⟩; have HX10 := Lib.hid (HX9.out.keep hb10); have HY10 := Lib.hid (HY9.out.keep hb10); have HB10 := Lib.hid (bthen HB9.out hb10); clear hb10)
            | (go_at_call 10; refine (alive_any _ (HT.out.keep HB10.out)).mono ?_; rintro e w11 ⟨rfl, hb11⟩; have HX11 := Lib.hid (HX10.out.keep hb11); have HY11 := Lib.hid (HY10.out.keep hb11); have HB11 := Lib.hid (bthen HB10.out hb11); clear hb11)
            | (go_at_call 22; with_reducible refine (count_any HX11.out).mono ?_; rintro e w12 ⟨rfl, rfl⟩)
            | (go_at_call 22; with_reducible refine (count_any HY11.out).mono ?_; rintro e w12 ⟨rfl, rfl⟩))
          go_ret
          exact ⟨rfl, HB11.out⟩
    case pos =>
    have hil : (i : Int) < (l : Int) := by omega
    have hi0 : (0 : Int) ≤ (i : Int) := by omega
    have hiZ : i < Z.length := by have := HLL.out; omega
    have HLT := Lib.hid hlt
    obtain ⟨v, hv⟩ := check_ex L M Z[i].D Z[i].X Z[i].t
    have HBM := Lib.hid (fun h1 h2 => both_more HBO.out HGR.out HX.out.strict7 HY.out.strict7 (fun a ha => (HX.out.ok a ha).r) (fun a ha => (HY.out.ok a ha).r) hv h1 h2)
    have HA1 := Lib.hid (fun W hW hI => HADD.out w1.heap.size bx mb g i hiZ U k (by omega) v hv W hW hI)
    have HA2 := Lib.hid (fun W hW hI => HADD.out w2.heap.size by_ my 1 i hiZ V k (by omega) v hv W hW hI)
    obtain ⟨b, off, rfl, c0, c1, c2⟩ := HZZ.out.at hiZ
    obtain ⟨z, hz⟩ : ∃ z, z = Z[i] := ⟨_, rfl⟩
    rw [← hz] at c0 c1 c2 HA1 HA2 HBM
    obtain ⟨⟨av, U2⟩, har⟩ : ∃ a, a = addR U v (rowX z.t g z.D z.X) := ⟨_, rfl⟩
    obtain ⟨⟨bv, V2⟩, hbr⟩ : ∃ a, a = addR V v (rowX z.t 1 z.D z.X) := ⟨_, rfl⟩
    rw [← har] at HA1 HBM
    rw [← hbr] at HA2 HBM
    have HEC := Lib.hid (fun W (hW : Below w.heap.size w W) => show W.cell? ⟨b, off + i * 3, none⟩ = some (.int .i64 z.t) ∧ W.cell? ⟨b, off + i * 3 + 1, none⟩ = some (.slice z.E z.p z.q) ∧ W.cell? ⟨b, off + i * 3 + 2, none⟩ = some (.slice z.F z.x z.y) from ⟨cell_on hW c0, cell_on hW c1, cell_on hW c2⟩)
    clear hv hz har hbr c0 c1 c2 hlt
    obtain ⟨c0, c1, c2⟩ := HEC.out wr HBR.out
    go_upto_region 11 with (go_at_call 18; refine (HA1.out wr HBR.out HX.out).mono ?_; rintro e w4 ⟨rfl, hi4, hk4⟩)
    have HXn := Lib.hid hi4
    have HY4 := Lib.hid (HY.out.other HX.out (fun e => HNE.out.1 e.symm) (fun e => HNE.out.2 e.symm) hk4)
    have HB4 := Lib.hid (HBR.out.trans (hk4.below (by have := HX.out.lx; omega) (by have := HX.out.lm; omega) HBR.out.size))
    have HBW4 := Lib.hid (HBWR.out.trans (hk4.below (by have := HX.out.lx; have := HBW1.out.size; omega) (by have := HX.out.lm; have := HBW1.out.size; omega) HBWR.out.size))
    clear hi4 hk4 c0 c1 c2
    obtain ⟨c0, c1, c2⟩ := HEC.out w4 HB4.out
    go_upto_region 12 with (go_at_call 18; refine (HA2.out w4 HB4.out HY4.out).mono ?_; rintro e w5 ⟨rfl, hi5, hk5⟩)
    have HYn := Lib.hid hi5
    have HXn := Lib.hid (HXn.out.other HY4.out HNE.out.1 HNE.out.2 hk5)
    have HB5 := Lib.hid (HB4.out.trans (hk5.below (by have := HY4.out.lx; omega) (by have := HY4.out.lm; omega) HB4.out.size))
    have HBW5 := Lib.hid (HBW4.out.trans (hk5.below (by have := HY4.out.lx; have := HBW2.out.size; omega) (by have := HY4.out.lm; have := HBW2.out.size; omega) HBW4.out.size))
    clear hi5 hk5 c0 c1 c2
    by_cases ha1 : av = 121
    case pos =>
      have z1 : (av == 121) = true := by rw [beq_iff_eq]; exact ha1
      clear ha1
      go_wp2_with (go_at_call 10; refine (alive_any _ (HT.out.keep HB5.out)).mono ?_; rintro e w6 ⟨rfl, hb6⟩)
      go_ret
      exact ⟨rfl, bthen HB5.out hb6⟩
    case neg =>
    have z1 : (av == 121) = false := by rw [beq_eq_false_iff_ne]; exact ha1
    by_cases hb1 : bv = 121
    case pos =>
      have z2 : (bv == 121) = true := by rw [beq_iff_eq]; exact hb1
      clear ha1 hb1
      go_wp2_with (go_at_call 10; refine (alive_any _ (HT.out.keep HB5.out)).mono ?_; rintro e w6 ⟨rfl, hb6⟩)
      go_ret
      exact ⟨rfl, bthen HB5.out hb6⟩
    case neg =>
    have z2 : (bv == 121) = false := by rw [beq_eq_false_iff_ne]; exact hb1
    obtain ⟨hab, hbo⟩ := HBM.out ha1 hb1
    have HBO2 := Lib.hid hbo
    subst hab
    have z3 : (av != av) = false := by simp
    clear HBM hbo ha1 hb1 HA1 HA2 HEC
    by_cases hav : av = 0
    case pos =>
      have z4 : (av == 0) = true := by rw [beq_iff_eq]; exact hav
      rw [if_pos hav] at HXn HYn
      clear hav
      go_wp2_with fail
      go_roundw
      case rel => exact ⟨k + 1, i + 1, U2, V2, by go_num, by go_num, by have := HLT.out; omega, by omega, HXn, HYn, HBO2, HB5, HBW5⟩
      case measure => have := HLT.out; simp [intOf]; omega
    case neg =>
      have z4 : (av == 0) = false := by rw [beq_eq_false_iff_ne]; exact hav
      rw [if_neg hav] at HXn HYn
      clear hav
      go_wp2_with fail
      go_roundw
      case rel => exact ⟨k, i + 1, U2, V2, rfl, by go_num, by have := HLT.out; omega, by omega, HXn, HYn, HBO2, HB5, HBW5⟩
      case measure => have := HLT.out; simp [intOf]; omega
end Go.Proofs.YtmmeekmiildliaaGreatDoor
