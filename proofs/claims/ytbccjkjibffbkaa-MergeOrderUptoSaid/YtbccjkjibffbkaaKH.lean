/- The document's Stats (12). -/
import Derived.Test.YtbccjkjibffbkaaKG
namespace Go.Proofs.Ytbccjkjibffbkaa
open Go.RowKit Go.Shelf
set_option linter.unusedSimpArgs false
set_option linter.unusedVariables false
theorem onekey_rz (y z : RZ) (w : World) (hy : Good w y) (hz : Good w z) : Calls Try.prog 25 #[.agg (encR y).toArray, .agg (encR z).toArray] w fun e w' => e = .returned (.bool (decide (cmpV y.2 z.2 = 0))) ∧ Below w.heap.size w w' := by
  have k1 := hy.sd
  have k2 := hz.sd
  exact onekey_any y.2.t z.2.t y.2.count z.2.count y.1.D z.1.D y.1.G z.1.G y.1.n y.1.c z.1.n z.1.c y.1.gn y.1.gc z.1.gn z.1.gc y.2.dims z.2.dims w hy.rd hz.rd hy.nd hz.nd (by omega) (by omega) _ (by rw [decide_eq_true_iff]; exact cmpV_zero)
/-- What the drawn region looks at. -/
structure Tri (g o b p h r : Nat) (x : Value) (y z : RZ) (W : World) : Prop where
  y0 : W.cell? ⟨g, o, none⟩ = some (.int .i64 y.2.t)
  y1 : W.cell? ⟨g, o + 1, none⟩ = some (.slice y.1.D y.1.n y.1.c)
  y2 : W.cell? ⟨g, o + 2, none⟩ = some (.int .i64 y.2.count)
  y3 : W.cell? ⟨g, o + 3, none⟩ = some (.slice y.1.G y.1.gn y.1.gc)
  x : W.cell? ⟨b, p, none⟩ = some x
  z0 : W.cell? ⟨h, r, none⟩ = some (.int .i64 z.2.t)
  z1 : W.cell? ⟨h, r + 1, none⟩ = some (.slice z.1.D z.1.n z.1.c)
  z2 : W.cell? ⟨h, r + 2, none⟩ = some (.int .i64 z.2.count)
  z3 : W.cell? ⟨h, r + 3, none⟩ = some (.slice z.1.G z.1.gn z.1.gc)
theorem Tri.keep {g o b p h r : Nat} {x : Value} {y z : RZ} {W W' : World} (k : Tri g o b p h r x y z W) (hb : Below W.heap.size W W') : Tri g o b p h r x y z W' :=
  ⟨cell_later hb k.y0, cell_later hb k.y1, cell_later hb k.y2, cell_later hb k.y3, cell_later hb k.x, cell_later hb k.z0, cell_later hb k.z1, cell_later hb k.z2, cell_later hb k.z3⟩
/-- The keys' list, while it grows. -/
structure Ky (w : World) (v : Value) (Q : List RZ) (K : List RV) (W : World) : Prop where
  bel : Below w.heap.size w W
  own : W.ownsRow w.heap.size 39 4 v Q.length (cellsR Q)
  good : ∀ z ∈ Q, Good w z
  keys : KeysSt K (Q.map Prod.snd)
theorem Ky.keep {w W W' : World} {v : Value} {Q : List RZ} {K : List RV} (h : Ky w v Q K W) (hb : Below W.heap.size W W') : Ky w v Q K W' := ⟨h.bel.trans (hb.mono h.bel.size), own_below h.own hb, h.good, h.keys⟩
set_option maxRecDepth 100000 in
set_option maxHeartbeats 16000000 in
theorem refstats_any (q dq : Nat) (A : Option Addr) (n c : Nat) (L : List Le) (w : World) (hL : LsIn w A L) (hn : n = L.length) (hq : ∀ z ∈ (L.map Le.Z).flatten, RowQ q dq z.2) (ht : (L.map Le.Z).flatten.length ≤ 1000000) :
    Calls Try.prog 12 #[.slice A n c] w (StatsPost w L) := by
  have hn9 : n ≤ 2000000 := by have := hL.few; omega
  have HIN := Lib.hid hL
  have HN := Lib.hid hn
  have HQ := Lib.hid hq
  have HT := Lib.hid ht
  clear hL hn hq ht
  go_enter Try.func12, Try.ntmps12
  go_wp2_with fail
  go_loopw [4, 5, 6] (fun v4 v5 v6 wr => ∃ (i m : Nat) (v : Value) (Y : List RZ), v = v4 ∧ v5 = .int .i64 m ∧ v6 = .int .i64 i ∧ i ≤ n ∧ m ≤ 1000000 ∧ Y.length ≤ m ∧ Hid (m = ((L.take i).map Le.Z).flatten.length) ∧ Hid (Ky w v Y (((L.take i).map Le.Z).flatten.map Prod.snd) wr) ∧ Hid (allS (L.take i) = true)) (fun _ _ v6 _ => n - (intOf v6).toNat)
  case atStart => exact ⟨0, 0, _, [], rfl, rfl, rfl, Nat.zero_le _, Nat.zero_le _, Nat.le_refl _, Lib.hid rfl, Lib.hid ⟨Below.refl _ _, World.ownsRow_nil _ _ _ _, fun z hz => absurd hz List.not_mem_nil, KeysSt.start⟩, Lib.hid rfl⟩
  case round =>
    obtain ⟨i, m, v, Y, rfl, rfl, rfl, hin, hm9, hYm, HM, HKY, HA⟩ := hrel
    obtain ⟨wo, rfl⟩ : ∃ wo : World, wo = wr := ⟨_, rfl⟩
    by_cases hlt : i < n
    case neg =>
      have hki : ¬ ((i : Int) < (n : Int)) := by omega
      have hE : L.take i = L := List.take_of_length_le (by have := HN.out; omega)
      have hS : allS L = true := by rw [← hE]; exact HA.out
      have hk := HKY.out.keys.len
      rw [hE, List.length_map] at hk
      obtain ⟨_, vA, vc, rfl, _⟩ := own_sliceR HKY.out.own
      have HSN := Lib.hid (show statsN L = m by unfold statsN; rw [if_pos hS, HM.out, hE])
      have HSK := Lib.hid (show statsK L = Y.length by unfold statsK; rw [if_pos hS, hk])
      clear hlt hE hS hk
      go_wp2_with fail
      go_ret2
      exact ⟨by rw [HSN.out, HSK.out]; rfl, HKY.out.bel⟩
    case pos =>
    have hkz0 : (0 : Int) ≤ (i : Int) := by omega
    have hkz1 : (i : Int) < (n : Int) := by omega
    have hkz : i < L.length := by have := HN.out; omega
    obtain ⟨b, off, hAe, c00, hok0⟩ := HIN.out.at hkz
    have c0 := cell_later HKY.out.bel c00
    have hok := hok0.keep HKY.out.bel
    obtain ⟨x, hx⟩ : ∃ x, x = L[i] := ⟨_, rfl⟩
    have hx9 : x.Z.length + m ≤ 1000000 := by
      have h1 := flat_len (L := L) (k := i + 1)
      rw [flat_take hkz, List.length_append, ← HM.out, ← hx] at h1
      have := HT.out; omega
    have HX := Lib.hid (show x ∈ L by rw [hx]; exact List.getElem_mem hkz)
    rw [← hx] at c0 hok c00 hok0
    have HC00 := Lib.hid c00
    have HOK0 := Lib.hid hok0
    clear c00 hok0
    have HTK := Lib.hid (show allS (L.take (i + 1)) = (allS (L.take i) && srtB x.Z) by
      unfold allS
      rw [take_snoc _ _ hkz, List.all_append, hx]; simp)
    have HMS := Lib.hid (show ((L.take (i + 1)).map Le.Z).flatten = ((L.take i).map Le.Z).flatten ++ x.Z by rw [flat_take hkz, hx])
    have HC := Lib.hid (refsrt_one (q := q) (dq := dq) hok (fun z hz => HQ.out z (flat_at (by rw [hx]; exact List.getElem_mem hkz) hz)))
    have HOK := Lib.hid hok
    have HC0 := Lib.hid c0
    obtain ⟨s, hs⟩ : ∃ s, s = srtB x.Z := ⟨_, rfl⟩
    rw [← hs] at HTK HC
    have HSB := Lib.hid hs
    subst hAe
    clear hlt hx hok hs hkz
    cases s
    · go_wp2_with (go_at_call 14; refine HC.out.mono ?_; rintro e w2 ⟨rfl, hb⟩; have HB2 := Lib.hid hb; clear hb c0; have c0 := cell_later HB2.out HC0.out)
      go_ret2
      have hno : ¬ allS L = true := fun h => by
        have h1 := (allS_iff L).1 h x HX.out
        have h2 := (srtB_iff _).2 h1
        rw [← HSB.out] at h2; cases h2
      exact ⟨by unfold statsN statsK; rw [if_neg hno, if_neg hno]; rfl, HKY.out.bel.trans (HB2.out.mono HKY.out.bel.size)⟩
    · have hxn : x.n ≤ 1000000 := by have := HOK.out.len; omega
      have hxs : m + x.n ≤ 1000000 := by have := HOK.out.len; omega
      go_upto_region 10 with (go_at_call 14; refine HC.out.mono ?_; rintro e w2 ⟨rfl, hb⟩; have HB2 := Lib.hid hb; clear hb c0; have c0 := cell_later HB2.out HC0.out)
      have HKY2 := Lib.hid (HKY.out.keep HB2.out)
      have HLN := Lib.hid (show x.n = x.Z.length from HOK.out.len)
      have HXC := Lib.hid (show ∀ W, Below w.heap.size w W → W.cell? ⟨b, off + i, none⟩ = some (.slice x.A x.n x.c) ∧ Row W x.A (cellsR x.Z) from fun W hW => ⟨cell_later hW HC00.out, HOK0.out.rows.row.keep (Nat.le_refl _) hW⟩)
      have HXG := Lib.hid (show ∀ z ∈ x.Z, Good w z from fun z hz => (HIN.out.ok x HX.out).rows.good z hz)
      clear HC HC0 HKY c0 hkz0
      have hkz0 : (0 : Int) ≤ (i : Int) := by omega
      go_upto_region 11 with fail
      go_loopw [4, 8] (fun v4 v8 wr => ∃ (k : Nat) (v : Value) (Y : List RZ), v = v4 ∧ v8 = .int .i64 k ∧ k ≤ x.n ∧ Y.length ≤ m + k ∧ Hid (Ky w v Y (((L.take i).map Le.Z).flatten.map Prod.snd ++ (x.Z.take k).map Prod.snd) wr)) (fun _ v8 _ => x.n - (intOf v8).toNat)
      case atStart => exact ⟨0, _, Y, rfl, rfl, Nat.zero_le _, hYm, Lib.hid (by rw [List.take_zero]; show Ky w v Y (_ ++ []) w2; rw [List.append_nil]; exact HKY2.out)⟩
      case round =>
        clear HKY2
        obtain ⟨k, v, Y, rfl, rfl, hkn, hYk, HKY⟩ := hrel
        obtain ⟨wk, rfl⟩ : ∃ wk : World, wk = wr := ⟨_, rfl⟩
        have c0 := (HXC.out _ HKY.out.bel).1
        by_cases hlt : k < x.n
        case neg =>
          have hki : ¬ ((k : Int) < (x.n : Int)) := by omega
          have hE : x.Z.take k = x.Z := List.take_of_length_le (by have := HLN.out; omega)
          have hkx : k = x.n := by omega
          subst hkx
          have HKY3 := Lib.hid (show Ky w v Y (((L.take (i + 1)).map Le.Z).flatten.map Prod.snd) wk by rw [HMS.out, List.map_append]; have h := HKY.out; rw [hE] at h; exact h)
          clear hlt hE
          go_wp2_with fail
          go_roundw
          case rel => exact ⟨i + 1, m + x.n, v, Y, rfl, by go_num, by go_num, by omega, by omega, hYk, Lib.hid (by rw [HMS.out, List.length_append, ← HM.out, HLN.out]), HKY3, Lib.hid (by rw [HTK.out, HA.out]; rfl)⟩
          case measure => simp [intOf]; omega
        case pos =>
        have hk0 : (0 : Int) ≤ (k : Int) := by omega
        have hk1 : (k : Int) < (x.n : Int) := by omega
        have hkZ : k < x.Z.length := by have := HLN.out; omega
        obtain ⟨z, hz⟩ : ∃ z, z = x.Z[k] := ⟨_, rfl⟩
        obtain ⟨hR, oR, hxA, z0, z1, z2, z3⟩ := row4 (HXC.out _ HKY.out.bel).2 hkZ
        rw [← hz] at z0 z1 z2 z3
        have HGZ := Lib.hid (show Good w z by rw [hz]; exact HXG.out _ (List.getElem_mem _))
        have HTZ := Lib.hid (show (x.Z.take (k + 1)).map Prod.snd = (x.Z.take k).map Prod.snd ++ [z.2] by rw [take_snoc _ _ hkZ, List.map_append, hz]; rfl)
        obtain ⟨_, vA, vc, rfl, hvr, hvc, hvm, hvn⟩ := own_sliceR HKY.out.own
        obtain ⟨my, hmy⟩ : ∃ my, my = Y.length := ⟨_, rfl⟩
        have HMY := Lib.hid hmy
        have hmy9 : my ≤ 1000000 := by omega
        rw [← hmy]
        rw [hxA] at c0 ⊢
        have HXA := Lib.hid hxA
        have HZC := Lib.hid (And.intro z0 (And.intro z1 (And.intro z2 z3)))
        clear hlt hz hmy hvr hvc hvm hvn z0 z1 z2 z3
        go_upto_region 15 with fail
        go_loopw [9, 10] (fun v9 v10 wr => ∃ (j : Nat) (p : Bool), v9 = .bool p ∧ v10 = .int .i64 j ∧ j ≤ my ∧ Hid (p = true ↔ ∃ o ∈ (Y.take j).map Prod.snd, cmpV o z.2 = 0) ∧ Hid (Below wk.heap.size wk wr)) (fun _ v10 _ => my - (intOf v10).toNat)
        case atStart => exact ⟨0, false, rfl, rfl, Nat.zero_le _, Lib.hid (by simp), Lib.hid (Below.refl _ _)⟩
        case round =>
          obtain ⟨j, p, rfl, rfl, hjm, HP, HBK⟩ := hrel
          obtain ⟨wj, rfl⟩ : ∃ wj : World, wj = wr := ⟨_, rfl⟩
          clear c0
          have HKJ := Lib.hid (HKY.out.keep HBK.out)
          by_cases hlt : j < my
          case neg =>
            have hki : ¬ ((j : Int) < (my : Int)) := by omega
            have hE : Y.take j = Y := List.take_of_length_le (by have := HMY.out; omega)
            have HPE := Lib.hid (show p = true ↔ ∃ o ∈ Y.map Prod.snd, cmpV o z.2 = 0 by have h := HP.out; rw [hE] at h; exact h)
            have c0 := (HXC.out _ HKJ.out.bel).1
            rw [HXA.out] at c0
            clear hlt hE
            cases p
            · have hnew : ¬ ∃ o ∈ Y.map Prod.snd, cmpV o z.2 = 0 := fun h => by have := HPE.out.2 h; cases this
              obtain ⟨z0, z1, z2, z3⟩ := HZC.out
              have z0 := cell_later HBK.out z0
              have z1 := cell_later HBK.out z1
              have z2 := cell_later HBK.out z2
              have z3 := cell_later HBK.out z3
              have HKN := Lib.hid (HKJ.out.keys.new hnew)
              have HSZ := Lib.hid HKJ.out.bel.size
              have HOJ := Lib.hid (show wj.ownsRow w.heap.size 39 4 (.slice vA my vc) my (cellsR Y) by rw [HMY.out]; exact HKJ.out.own)
              clear hnew
              go_wp2_with (at_builtin; refine wpList_append_rows rfl _ _ rfl w.heap.size (.slice vA my vc) my (cellsR Y) rfl (some ⟨wj.heap.size, 0, none⟩) 1 1 [z] rfl (HOJ.out.alloc _) (by rw [cellsR_one]; exact Row.made rfl rfl) rfl (Nat.le_refl _) (fun h => by cases h) (by omega) (by simp; exact Nat.le_succ_of_le HSZ.out) ?_; intro v3 w3 ho3 hg3)
              have HK3 := Lib.hid (show Ky w v3 (Y ++ [z]) (((L.take i).map Le.Z).flatten.map Prod.snd ++ (x.Z.take (k + 1)).map Prod.snd) w3 from
                ⟨(bpush (HKJ.out.bel) _).trans (grown_below4 (HOJ.out.alloc _) hg3 (by simp; exact Nat.le_succ_of_le HSZ.out)), by rw [List.length_append, ← HMY.out, cellsR_app]; exact ho3, fun y hy => by
                  rcases List.mem_append.1 hy with h | h
                  · exact HKJ.out.good y h
                  · rw [List.mem_singleton.1 h]; exact HGZ.out, by rw [HTZ.out, ← List.append_assoc, List.map_append]; exact HKN.out⟩)
              clear ho3 hg3 c0
              go_wp2_with fail
              go_roundw
              case rel => exact ⟨k + 1, v3, Y ++ [z], rfl, by go_num, by omega, by have := HMY.out; simp; omega, HK3⟩
              case measure => simp [intOf]; omega
            · have hold : ∃ o ∈ Y.map Prod.snd, cmpV o z.2 = 0 := HPE.out.1 rfl
              have HKN := Lib.hid (show Ky w (.slice vA my vc) Y (((L.take i).map Le.Z).flatten.map Prod.snd ++ (x.Z.take (k + 1)).map Prod.snd) wj from ⟨HKJ.out.bel, by rw [HMY.out]; exact HKJ.out.own, HKJ.out.good, by rw [HTZ.out, ← List.append_assoc]; exact HKJ.out.keys.seen hold⟩)
              clear hold
              go_wp2_with fail
              go_roundw
              case rel => exact ⟨k + 1, _, Y, rfl, by go_num, by omega, by have := HMY.out; omega, HKN⟩
              case measure => simp [intOf]; omega
          case pos =>
          have hj0 : (0 : Int) ≤ (j : Int) := by omega
          have hj1 : (j : Int) < (my : Int) := by omega
          have hjY : j < Y.length := by have := HMY.out; omega
          obtain ⟨y, hy⟩ : ∃ y, y = Y[j] := ⟨_, rfl⟩
          obtain ⟨_, vA', vc', hv', hvr, _⟩ := own_sliceR HKJ.out.own
          cases hv'
          obtain ⟨gk, ok, hvA, y0, y1, y2, y3⟩ := row4 hvr hjY
          rw [← hy] at y0 y1 y2 y3
          have HGY := Lib.hid (show Good wj y by rw [hy]; exact (HKJ.out.good _ (List.getElem_mem _)).keep HKJ.out.bel)
          have HGZ2 := Lib.hid (HGZ.out.keep HKJ.out.bel)
          have HTY := Lib.hid (show (Y.take (j + 1)).map Prod.snd = (Y.take j).map Prod.snd ++ [y.2] by rw [take_snoc _ _ hjY, List.map_append, hy]; rfl)
          have c0 := (HXC.out _ HKJ.out.bel).1
          rw [HXA.out] at c0
          obtain ⟨z0, z1, z2, z3⟩ := HZC.out
          have HTR := Lib.hid (show Tri gk (ok + j * 4) b (off + i) hR (oR + k * 4) (.slice (some ⟨hR, oR, none⟩) x.n x.c) y z wj from ⟨y0, y1, y2, y3, c0, cell_later HBK.out z0, cell_later HBK.out z1, cell_later HBK.out z2, cell_later HBK.out z3⟩)
          have HEQ := Lib.hid (fun (W : World) (hW : Below wj.heap.size wj W) => onekey_rz y z W (HGY.out.keep hW) (HGZ2.out.keep hW))
          obtain ⟨r, hr⟩ : ∃ r, r = decide (cmpV y.2 z.2 = 0) := ⟨_, rfl⟩
          have HEQ := Lib.hid (show ∀ W, Below wj.heap.size wj W → Calls Try.prog 25 #[.agg (encR y).toArray, .agg (encR z).toArray] W fun e w' => e = .returned (.bool r) ∧ Below W.heap.size W w' from fun W hW => by rw [hr]; exact HEQ.out W hW)
          have HPN := Lib.hid (show (p || r) = true ↔ ∃ o ∈ (Y.take (j + 1)).map Prod.snd, cmpV o z.2 = 0 by
            rw [HTY.out, Bool.or_eq_true, HP.out, hr, decide_eq_true_iff]
            constructor
            · rintro (⟨o, ho, e⟩ | e)
              · exact ⟨o, List.mem_append_left _ ho, e⟩
              · exact ⟨y.2, by simp, e⟩
            · rintro ⟨o, ho, e⟩
              rcases List.mem_append.1 ho with ho | ho
              · exact .inl ⟨o, ho, e⟩
              · rw [List.mem_singleton.1 ho] at e; exact .inr e)
          rw [hvA]
          clear hy hr hlt y0 y1 y2 y3 z0 z1 z2 z3 c0 hvr
          have hx0 : (0 : Int) ≤ (i : Int) := by omega
          have hxi : (i : Int) < (n : Int) := by omega
          go_upto_region 17 with fail
          refine wp_region_held_drew (S := Tri gk (ok + j * 4) b (off + i) hR (oR + k * 4) (.slice (some ⟨hR, oR, none⟩) x.n x.c) y z) (by kernel_rfl) (HTR.out.keep (below_drewN (Below.refl _ _) 1)) ?_
          intro hHeld
          refine take_want (i := 0) (v := ?va0) rfl (by kernel_rfl) (by kernel_rfl) (by kernel_rfl) (fun _ _ _ h => h) (by rfl) ?ya0 (by assumption) ?ra0
          case ya0 => (intro w hSw; obtain ⟨y0, y1, y2, y3, xc, z0, z1, z2, z3⟩ := hSw; go_simp; all_goals with_reducible rfl)
          (try simp only [Act.put, List.setIfInBounds_toArray, List.set_cons_zero, List.set_cons_succ])
          refine take_want (i := 1) (v := ?va1) rfl (by kernel_rfl) (by kernel_rfl) (by kernel_rfl) (fun _ _ _ h => h) (by rfl) ?ya1 (by assumption) ?ra1
          case ya1 => (intro w hSw; obtain ⟨y0, y1, y2, y3, xc, z0, z1, z2, z3⟩ := hSw; go_simp; all_goals with_reducible rfl)
          (try simp only [Act.put, List.setIfInBounds_toArray, List.set_cons_zero, List.set_cons_succ])
          refine take_want (i := 2) (v := ?va2) rfl (by kernel_rfl) (by kernel_rfl) (by kernel_rfl) (fun _ _ _ h => h) (by rfl) ?ya2 (by assumption) ?ra2
          case ya2 => (intro w hSw; obtain ⟨y0, y1, y2, y3, xc, z0, z1, z2, z3⟩ := hSw; go_simp; all_goals with_reducible rfl)
          (try simp only [Act.put, List.setIfInBounds_toArray, List.set_cons_zero, List.set_cons_succ])
          refine take_want (i := 3) (v := ?va3) rfl (by kernel_rfl) (by kernel_rfl) (by kernel_rfl) (fun _ _ _ h => h) (by rfl) ?ya3 (by assumption) ?ra3
          case ya3 => (intro w hSw; obtain ⟨y0, y1, y2, y3, xc, z0, z1, z2, z3⟩ := hSw; go_simp; all_goals with_reducible rfl)
          (try simp only [Act.put, List.setIfInBounds_toArray, List.set_cons_zero, List.set_cons_succ])
          refine take_want (i := 4) (v := ?va4) rfl (by kernel_rfl) (by kernel_rfl) (by kernel_rfl) (fun _ _ _ h => h) (by rfl) ?ya4 (by assumption) ?ra4
          case ya4 => (intro w hSw; obtain ⟨y0, y1, y2, y3, xc, z0, z1, z2, z3⟩ := hSw; go_simp; all_goals with_reducible rfl)
          (try simp only [Act.put, List.setIfInBounds_toArray, List.set_cons_zero, List.set_cons_succ])
          refine take_want (i := 5) (v := ?va5) rfl (by kernel_rfl) (by kernel_rfl) (by kernel_rfl) (fun _ _ _ h => h) (by rfl) ?ya5 (by assumption) ?ra5
          case ya5 => (intro w hSw; obtain ⟨y0, y1, y2, y3, xc, z0, z1, z2, z3⟩ := hSw; go_simp; all_goals with_reducible rfl)
          (try simp only [Act.put, List.setIfInBounds_toArray, List.set_cons_zero, List.set_cons_succ])
          refine take_want (i := 6) (v := ?va6) rfl (by kernel_rfl) (by kernel_rfl) (by kernel_rfl) (fun _ _ _ h => h) (by rfl) ?ya6 (by assumption) ?ra6
          case ya6 => (intro w hSw; obtain ⟨y0, y1, y2, y3, xc, z0, z1, z2, z3⟩ := hSw; go_simp; all_goals with_reducible rfl)
          (try simp only [Act.put, List.setIfInBounds_toArray, List.set_cons_zero, List.set_cons_succ])
          refine take_want (i := 7) (v := ?va7) rfl (by kernel_rfl) (by kernel_rfl) (by kernel_rfl) (fun _ _ _ h => h) (by rfl) ?ya7 (by assumption) ?ra7
          case ya7 => (intro w hSw; obtain ⟨y0, y1, y2, y3, xc, z0, z1, z2, z3⟩ := hSw; go_simp; all_goals with_reducible rfl)
          (try simp only [Act.put, List.setIfInBounds_toArray, List.set_cons_zero, List.set_cons_succ])
          refine take_want (i := 8) (v := ?va8) rfl (by kernel_rfl) (by kernel_rfl) (by kernel_rfl) (fun _ _ _ h => h) (by rfl) ?ya8 (by assumption) ?ra8
          case ya8 => (intro w hSw; obtain ⟨y0, y1, y2, y3, xc, z0, z1, z2, z3⟩ := hSw; go_simp; all_goals with_reducible rfl)
          (try simp only [Act.put, List.setIfInBounds_toArray, List.set_cons_zero, List.set_cons_succ])
          refine take_want (i := 9) (v := ?va9) rfl (by kernel_rfl) (by kernel_rfl) (by kernel_rfl) (fun _ _ _ h => h) (by rfl) ?ya9 (by assumption) ?ra9
          case ya9 => (intro w hSw; obtain ⟨y0, y1, y2, y3, xc, z0, z1, z2, z3⟩ := hSw; go_simp; all_goals with_reducible rfl)
          (try simp only [Act.put, List.setIfInBounds_toArray, List.set_cons_zero, List.set_cons_succ])
          refine take_want (i := 10) (v := ?va10) rfl (by kernel_rfl) (by kernel_rfl) (by kernel_rfl) (fun _ _ _ h => h) (by rfl) ?ya10 (by assumption) ?ra10
          case ya10 => (intro w hSw; obtain ⟨y0, y1, y2, y3, xc, z0, z1, z2, z3⟩ := hSw; go_simp; all_goals with_reducible rfl)
          (try simp only [Act.put, List.setIfInBounds_toArray, List.set_cons_zero, List.set_cons_succ])
          refine wpAnyH_ready (rs := [11]) (by kernel_rfl) (by simp) ?_
          refine AllReadyH.cons rfl (fun K hK => ?_) AllReadyH.nil
          go_simp
          (go_at_call 25; refine (HEQ.out _ (below_drewN (Below.refl _ _) 1)).mono ?_; rintro e w2 ⟨rfl, hb⟩)
          refine hK.out _ _ (hHeld.keep hb) (fun hHeld => ?_)
          clear hK K
          (try simp only [Act.put, List.setIfInBounds_toArray, List.set_cons_zero, List.set_cons_succ])
          have HB5 := Lib.hid (show Below wj.heap.size wj w2 from (below_drewN (Below.refl _ _) 1).trans (hb.mono (Nat.le_refl _)))
          clear hb HEQ
          refine take_want (i := 12) (v := ?vb12) rfl (by kernel_rfl) (by kernel_rfl) (by kernel_rfl) (fun _ _ _ h => h) (by rfl) ?yb12 (by assumption) ?rb12
          case yb12 => (intro w hSw; go_simp; all_goals with_reducible rfl)
          (try simp only [Act.put, List.setIfInBounds_toArray, List.set_cons_zero, List.set_cons_succ])
          clear hHeld
          refine wpAnyH_done (by kernel_rfl) ?_ _
          cases p <;> (
            go_wp2_with fail
            go_roundw
            case rel => exact ⟨j + 1, _, rfl, by go_num, by omega, HPN, Lib.hid (HBK.out.trans (HB5.out.mono HBK.out.size))⟩
            case measure => simp [intOf]; omega)
end Go.Proofs.Ytbccjkjibffbkaa
