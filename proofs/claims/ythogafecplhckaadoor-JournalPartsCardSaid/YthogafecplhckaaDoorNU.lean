/- The document's Entries (12). -/
import Derived.Test.YthogafecplhckaaDoorNQT
import Derived.Test.YthogafecplhckaaDoorNL
import Derived.Test.YthogafecplhckaaDoorCEH
namespace Go.Proofs.YthogafecplhckaaDoor
open Go.RowKit
set_option linter.unusedSimpArgs false
set_option linter.unusedVariables false
theorem firstZ_len {bs xs : List Int} {l : Nat} (hb : bytes bs) (h : firstZ bs = some (xs, l)) : (blockL xs).length = l := by
  unfold firstZ at h
  obtain ⟨v, g, hp⟩ : ∃ v g, numP (bs.take 10) = (v, g) := ⟨_, _, rfl⟩
  rw [hp] at h
  simp only [] at h
  split at h
  · cases h
  · rename_i hc
    simp only [not_or] at hc
    obtain ⟨h1, h2, h3, h4, h5⟩ := hc
    simp only [Option.some.injEq, Prod.mk.injEq] at h
    obtain ⟨rfl, rfl⟩ := h
    have hl : ((bs.drop g).take v.toNat).length = v.toNat := by rw [List.length_take, List.length_drop]; omega
    have he := numP_back (bs := bs.take 10) (fun x hx => hb x (List.mem_of_mem_take hx)) hp (by omega)
    have hg := (numP_len hp).1
    have hz : encV (v.toNat : Int) = (bs.take 10).take g := by rw [Int.toNat_of_nonneg (by omega)]; exact he
    rw [block_len, hl, hz, List.length_take]
    omega
theorem blocks_step {b xs : List Int} {t : List (List Int)} (h : (blocksZ b).1 = xs :: t) : ∃ l, firstZ b = some (xs, l) ∧ t = (blocksZ (b.drop l)).1 := by
  cases hf : firstZ b with
  | none => rw [blocksZ_none hf] at h; cases h
  | some p =>
    obtain ⟨x, k⟩ := p
    rw [blocksZ_some hf] at h
    simp only [List.cons.injEq] at h
    exact ⟨k, by rw [h.1], h.2.symm⟩
theorem blocks_end {b : List Int} (h : (blocksZ b).1 = []) : firstZ b = none := by
  cases hf : firstZ b with
  | none => rfl
  | some p =>
    obtain ⟨x, k⟩ := p
    rw [blocksZ_some hf] at h
    cases h
theorem ent_new1 (w : World) (z : EZ) (t : TypeId) : ∀ j u, (encEnt z)[j]? = some u → (w.alloc (.cells #[.bool z.tick, .int .i64 z.now, .int .i64 z.ev.t, .slice z.ev.E z.ev.p z.ev.q, .slice z.ev.F z.ev.x z.ev.y] t)).cell? ((⟨w.heap.size, 0, none⟩ : Addr).add j) = some u := by
  intro j u hj
  have h1 : (⟨w.heap.size, 0, none⟩ : Addr).add j = ⟨w.heap.size, j, none⟩ := by
    unfold Addr.add
    split
    · rename_i h; rw [h]
    · simp
  rw [h1]
  exact cell_made rfl (by simpa [encEnt] using hj)
theorem row_at {w : World} {A : Option Addr} {vs : List Value} {j : Nat} {u : Value} (h : Row w A vs) (hk : vs[j]? = some u) : ∃ b off, A = some ⟨b, off, none⟩ ∧ w.cell? ⟨b, off + j, none⟩ = some u := by
  rcases h with h0 | ⟨b, off, h1, hc⟩
  · rw [h0] at hk; simp at hk
  · exact ⟨b, off, h1, hc j u hk⟩
theorem own_type {w : World} {B b size n : Nat} {e t : TypeId} {v : Value} {xs : List Value} {cs : Array Value} (h : w.ownsRow B e size v n xs) (hb : v.ownBlock = some b) (hk : Blk w b t cs) (ht : e ≠ t) : False := by
  rcases h.2 with ⟨rfl, _⟩ | ⟨g', cap, cur, rfl, _, hc, _⟩
  · cases hb
  · obtain rfl : g' = b := by simpa [Value.ownBlock] using hb
    unfold Blk at hk
    have := hc.symm.trans hk
    cases this; exact ht rfl
/-- An event's rows lie in no block of entries. -/
theorem EvO.apartAt {w w' : World} {z : EV} {b : Nat} {cs : Array Value} (h : EvO w z) (hf : Fr (fun i => i = b) w w') (hb : Blk w b 46 cs) : EvO w' z := by
  refine ⟨own_frJ h.od hf ?_, own_frJ h.ox hf ?_, h.sd⟩
  · intro g hg e
    subst e
    exact own_type h.od hg hb (by decide)
  · intro g hg e
    subst e
    exact own_type h.ox hg hb (by decide)
def DecU (w : World) (L M : List ByteArray) (bs : List Int) (e : Ending) (w' : World) : Prop :=
  ∃ (z : EZ) (er : Int), e = .returned (.tuple #[z.arg, .int .i64 er]) ∧ EvO w' z.ev ∧ Below w.heap.size w w' ∧ ((er = 0 ∧ rightJ L M z ∧ encJ z = bs) ∨ (er ≠ 0 ∧ ∀ z1, rightJ L M z1 → encJ z1 ≠ bs))
theorem DecPost.u {w : World} {L M : List ByteArray} {bs : List Int} {e : Ending} {w' : World} (h : DecPost w L M bs e w') : DecU w L M bs e w' := by
  rcases h with ⟨z, h1, h2, h3, h4, h5⟩ | ⟨h1, h2, h3⟩
  · exact ⟨z, 0, h4, h3, h5, .inl ⟨rfl, h1, h2⟩⟩
  · exact ⟨⟨false, 0, ⟨none, 0, 0, none, 0, 0, 0, [], []⟩⟩, 191, h2, ⟨World.ownsRow_nil _ _ _ _, World.ownsRow_nil _ _ _ _, fun s hs => by cases hs⟩, h3, .inr ⟨by decide, h1⟩⟩
set_option maxRecDepth 100000 in
set_option maxHeartbeats 8000000 in
theorem entries_any (A0 B0 D0 : Option Addr) (n c m d nb kb : Nat) (L M : List ByteArray) (bs : List Int) (w : World) (hrow : Row w D0 (bs.map (Value.int .u8))) (hnb : nb = bs.length) (hnb2 : nb ≤ 800000) (hby : bytes bs) (hnk : nb ≤ kb) (hnil : D0 = none → kb = 0) (hn : n = L.length) (hm : m = M.length) (hn2 : n ≤ 1000) (hm2 : m ≤ 1000) :
    Calls Tryd.prog 12 #[.slice D0 nb kb, .agg #[.slice A0 n c, .slice B0 m d]] w (JReadP w L M bs) := by
  obtain ⟨i0, hi0, hz0, hz1, hz2⟩ := info_parts info46
  obtain ⟨w1, hw1⟩ : ∃ w1, w1 = w.alloc (.cells #[.slice A0 n c, .slice B0 m d] 24) := ⟨_, rfl⟩
  have hb1 : Below w.heap.size w w1 := by rw [hw1]; exact bpush (Below.refl _ _) _
  have s0 : w1.cell? ⟨w.heap.size, 0, none⟩ = some (.slice A0 n c) := by rw [hw1]; exact cell_made rfl rfl
  have s1 : w1.cell? ⟨w.heap.size, 1, none⟩ = some (.slice B0 m d) := by rw [hw1]; exact cell_made rfl rfl
  have HCS1 := Lib.hid (fun W (hb : Below w1.heap.size w1 W) => show W.cell? ⟨w.heap.size, 0, none⟩ = some (.slice A0 n c) ∧ W.cell? ⟨w.heap.size, 1, none⟩ = some (.slice B0 m d) from ⟨cell_on hb s0, cell_on hb s1⟩)
  have HBK := Lib.hid (rblocks_any D0 nb kb bs w1 (hrow.keep (Nat.le_refl _) hb1) hnb hnk (by omega) hby hnil)
  have HB1 := Lib.hid hb1
  have HW1 := Lib.hid hw1
  have HN := Lib.hid hn
  have HM := Lib.hid hm
  have HBY := Lib.hid hby
  have HNB := Lib.hid hnb
  clear hb1 hw1 hrow hnb hby hn hm s0 s1
  go_enter Tryd.func12, Tryd.ntmps12
  go_upto_region 3 with fail
  rw [← HW1.out]
  clear HW1
  go_wp2_with fail
  refine HBK.out.mono ?_
  rintro e w2 ⟨Ab, cb, vs, rfl, hvr, hrws, hcb, hnilb, hb2⟩
  obtain ⟨R, hR⟩ : ∃ R, R = blocksZ bs := ⟨_, rfl⟩
  rw [← hR] at hrws hcb ⊢
  obtain ⟨R1, hR1⟩ : ∃ R1, R1 = R.1 := ⟨_, rfl⟩
  rw [← hR1] at hrws hcb ⊢
  obtain ⟨nk, hnk⟩ : ∃ nk, nk = R1.length := ⟨_, rfl⟩
  rw [← hnk] at hcb ⊢
  have HRW := Lib.hid hrws
  have HVR := Lib.hid hvr
  have HNK := Lib.hid hnk
  have HR1 := Lib.hid (show R1 = (blocksZ bs).1 by rw [hR1, hR])
  have HB2 := Lib.hid (show Below w1.heap.size w1 w2 from hb2)
  have HCS := Lib.hid (fun W (hb : Below w2.heap.size w2 W) => HCS1.out W (bthen hb2 hb))
  clear hrws hvr hnk hR1 hR hb2 HBK HCS1
  go_wp2_with fail
  go_loopw [6, 7, 10] (fun v pv i wr => ∃ (j p : Nat) (Z : List EZ), j ≤ nk ∧ p ≤ nb ∧ j ≤ p ∧ i = .int .i64 j ∧ pv = .int .i64 p ∧ Hid (j = Z.length) ∧ Hid (wr.ownsRow w2.heap.size 46 5 v j (cellsJ Z)) ∧ Hid (∀ z ∈ Z, EvO wr z.ev) ∧ Hid (Below w2.heap.size w2 wr) ∧ Hid (JPre L M Z p bs) ∧ Hid (R1.drop j = (blocksZ (bs.drop p)).1)) (fun _ _ i _ => nk - (intOf i).toNat)
  case atStart => exact ⟨0, 0, [], by omega, by omega, by omega, rfl, rfl, Lib.hid rfl, Lib.hid (World.ownsRow_nil _ _ _ _), Lib.hid (fun z hz => by cases hz), Lib.hid (Below.refl _ _), Lib.hid rfl, Lib.hid (by rw [HR1.out]; rfl)⟩
  case round =>
    obtain ⟨j, p, Z, hj, hp, hjp, rfl, rfl, HK, HO, HEV, HBW, HJ, HRJ⟩ := hrel
    have FIN := Lib.hid (show JStop L M (bs.drop p) → ∀ w2' : World, Below wr.heap.size wr w2' → JReadP w L M bs (.returned (.tuple #[u6, .int .i64 (p : Int)])) w2' from by
      intro hst w2' hb2
      obtain ⟨A4, c4, he, h1, h2, h3⟩ := own_slice5 (own_below HO.out hb2)
      refine ⟨A4, c4, Z, p, by rw [he, HK.out], ⟨h1, fun z hz => EvO.evg ((HEV.out z hz).keep hb2)⟩, by rw [← HK.out]; exact h2, h3, ⟨HJ.out, hst⟩, by rw [← HNB.out]; exact hp, bthen HB1.out (bthen HB2.out (bthen HBW.out hb2))⟩)
    by_cases hlt : j < nk
    · have hki : (j : Int) < (nk : Int) := by omega
      have hk0 : (0 : Int) ≤ (j : Int) := by omega
      have hjr : j < R1.length := by have := HNK.out; omega
      obtain ⟨xs, hxs⟩ : ∃ xs, xs = R1[j] := ⟨_, rfl⟩
      have hxj : R1[j]? = some xs := by rw [List.getElem?_eq_getElem hjr, hxs]
      have hdr : R1.drop j = xs :: R1.drop (j + 1) := by rw [hxs]; exact List.drop_eq_getElem_cons hjr
      obtain ⟨l, hfz, hrest⟩ := blocks_step (by rw [← HRJ.out]; exact hdr)
      have hbd := firstZ_bd hfz
      rw [List.length_drop, ← HNB.out] at hbd
      have HFZ := Lib.hid hfz
      have HRN := Lib.hid (show R1.drop (j + 1) = (blocksZ (bs.drop (p + l))).1 by rw [hrest, List.drop_drop])
      obtain ⟨A3, c3, hv3, hr3, hc3, hn3, _⟩ := HRW.out.2 j xs hxj
      obtain ⟨b, off, hAe, c0⟩ := row_at (HVR.out.keep (Nat.le_refl _) HBW.out) hv3
      obtain ⟨lx, hlx⟩ : ∃ lx, lx = xs.length := ⟨_, rfl⟩
      rw [← hlx] at c0 hc3 hbd
      obtain ⟨hl1, hl2, hl3⟩ := hbd
      have HXB := Lib.hid (show bytes xs from firstZ_bytes HBY.out hfz)
      have HB2' := Lib.hid (show bytes (bs.drop p) from fun z hz => HBY.out z (List.mem_of_mem_drop hz))
      have HR3 := Lib.hid (show Row wr A3 (xs.map (Value.int .u8)) from hr3.keep (Nat.le_refl _) HBW.out)
      have HN3 := Lib.hid hn3
      have HLX := Lib.hid hlx
      have HDC := Lib.hid (fun W (h : Below wr.heap.size wr W) => (refdecode_any A0 B0 A3 n c m d lx c3 L M xs W (HR3.out.keep (Nat.le_refl _) h) HLX.out (by omega) HXB.out hc3 HN3.out HN.out HM.out hn2 hm2).mono (fun e w' h => DecPost.u h))
      subst hAe
      clear hxs hxj hdr hfz hrest hv3 hr3 hn3 hlx hjr
      go_upto_region 7 with fail
      refine wp_region_held_drew (S := fun W => Below wr.heap.size wr W) (by kernel_rfl) (below_drewN (Below.refl _ _) 1) ?_
      intro hHeld
      refine take_want (i := 0) (v := ?v0k1) rfl (by kernel_rfl) (by kernel_rfl) (by kernel_rfl) (fun _ _ _ h => h) (by rfl) ?y0k1 (by assumption) ?r0k1
      case y0k1 => (intro w hSw; obtain ⟨q0, q1⟩ := HCS.out w (bthen HBW.out hSw); go_simp; all_goals with_reducible rfl)
      (try simp only [Act.put, List.setIfInBounds_toArray, List.set_cons_zero, List.set_cons_succ])
      refine take_want (i := 1) (v := ?v1k2) rfl (by kernel_rfl) (by kernel_rfl) (by kernel_rfl) (fun _ _ _ h => h) (by rfl) ?y1k2 (by assumption) ?r1k2
      case y1k2 => (intro w hSw; go_simp; all_goals with_reducible rfl)
      (try simp only [Act.put, List.setIfInBounds_toArray, List.set_cons_zero, List.set_cons_succ])
      refine take_want (i := 2) (v := ?v2k3) rfl (by kernel_rfl) (by kernel_rfl) (by kernel_rfl) (fun _ _ _ h => h) (by rfl) ?y2k3 (by assumption) ?r2k3
      case y2k3 => (intro w hSw; go_simp; all_goals with_reducible rfl)
      (try simp only [Act.put, List.setIfInBounds_toArray, List.set_cons_zero, List.set_cons_succ])
      refine take_want (i := 3) (v := ?v3k4) rfl (by kernel_rfl) (by kernel_rfl) (by kernel_rfl) (fun _ _ _ h => h) (by rfl) ?y3k4 (by assumption) ?r3k4
      case y3k4 => (intro w hSw; go_simp; all_goals with_reducible rfl)
      (try simp only [Act.put, List.setIfInBounds_toArray, List.set_cons_zero, List.set_cons_succ])
      refine take_want (i := 4) (v := ?v4k5) rfl (by kernel_rfl) (by kernel_rfl) (by kernel_rfl) (fun _ _ _ h => h) (by rfl) ?y4k5 (by assumption) ?r4k5
      case y4k5 => (intro w hSw; have c9 := cell_on hSw c0; go_simp; all_goals with_reducible rfl)
      (try simp only [Act.put, List.setIfInBounds_toArray, List.set_cons_zero, List.set_cons_succ])
      refine wpAnyH_ready (rs := [5, 9]) (by kernel_rfl) (by simp) ?_
      refine AllReadyH.cons rfl (fun K hK => ?_) (AllReadyH.cons rfl (fun K hK => ?_) AllReadyH.nil)
      · go_simp
        (go_at_call 32; refine (HDC.out _ hHeld).mono ?_; rintro e w3 ⟨z, er, rfl, hz3, hb3, hout⟩)
        obtain ⟨tick, now, ⟨E, pp, q, F, x, y, t, D, X⟩⟩ := z
        have hb13 : Below wr.heap.size wr w3 := bthen hHeld hb3
        have HB13 := Lib.hid hb13
        have HZ3 := Lib.hid hz3
        have HOUT := Lib.hid hout
        clear hz3 hout
        refine hK.out _ _ hb13 (fun hHeld => ?_)
        clear hK K
        (try simp only [Act.put, List.setIfInBounds_toArray, List.set_cons_zero, List.set_cons_succ])
        refine take_want (i := 6) (v := ?v6k6) rfl (by kernel_rfl) (by kernel_rfl) (by kernel_rfl) (fun _ _ _ h => h) (by rfl) ?y6k6 (by assumption) ?r6k6
        case y6k6 => (intro w hSw; go_simp; all_goals with_reducible rfl)
        (try simp only [Act.put, List.setIfInBounds_toArray, List.set_cons_zero, List.set_cons_succ])
        refine take_want (i := 7) (v := ?v7k7) rfl (by kernel_rfl) (by kernel_rfl) (by kernel_rfl) (fun _ _ _ h => h) (by rfl) ?y7k7 (by assumption) ?r7k7
        case y7k7 => (intro w hSw; go_simp; all_goals with_reducible rfl)
        (try simp only [Act.put, List.setIfInBounds_toArray, List.set_cons_zero, List.set_cons_succ])
        refine take_want (i := 8) (v := ?v8k8) rfl (by kernel_rfl) (by kernel_rfl) (by kernel_rfl) (fun _ _ _ h => h) (by rfl) ?y8k8 (by assumption) ?r8k8
        case y8k8 => (intro w hSw; go_simp; all_goals with_reducible rfl)
        (try simp only [Act.put, List.setIfInBounds_toArray, List.set_cons_zero, List.set_cons_succ])
        refine wpAnyH_ready (rs := [9]) (by kernel_rfl) (by simp) ?_
        refine AllReadyH.cons rfl (fun K hK => ?_) AllReadyH.nil
        go_simp
        refine hK.out _ _ (bpush HB13.out _) (fun hHeld => ?_)
        clear hK K
        (try simp only [Act.put, List.setIfInBounds_toArray, List.set_cons_zero, List.set_cons_succ])
        refine wpAnyH_ready (rs := [10]) (by kernel_rfl) (by simp) ?_
        refine AllReadyH.cons rfl (fun K hK => ?_) AllReadyH.nil
        go_simp
        obtain ⟨w8, hw8⟩ : ∃ w8, w8 = w3.alloc (.cells #[.bool tick, .int .i64 now, .int .i64 t, .slice E pp q, .slice F x y] 46) := ⟨_, rfl⟩
        obtain ⟨eb, heb⟩ : ∃ eb, eb = w3.heap.size := ⟨_, rfl⟩
        rw [← hw8, ← heb]
        have hb38 : Below w3.heap.size w3 w8 := by rw [hw8]; exact bpush (Below.refl _ _) _
        have HB8 := Lib.hid (show Below wr.heap.size wr w8 from bthen HB13.out hb38)
        have HK8 := Lib.hid (show Blk w8 eb 46 #[.bool tick, .int .i64 now, .int .i64 t, .slice E pp q, .slice F x y] from by rw [hw8, heb]; exact Blk.new _ _ _)
        have HZ8 := Lib.hid (show EvO w8 ⟨E, pp, q, F, x, y, t, D, X⟩ from HZ3.out.keep hb38)
        clear hb38 hw8 heb hb13 hb3
        refine hK.out _ _ HB8.out (fun hHeld => ?_)
        clear hK K
        (try simp only [Act.put, List.setIfInBounds_toArray, List.set_cons_zero, List.set_cons_succ])
        refine take_want (i := 11) (v := ?v11k9) rfl (by kernel_rfl) (by kernel_rfl) (by kernel_rfl) (fun _ _ _ h => h) (by rfl) ?y11k9 (by assumption) ?r11k9
        case y11k9 => (intro w hSw; go_simp; all_goals with_reducible rfl)
        (try simp only [Act.put, List.setIfInBounds_toArray, List.set_cons_zero, List.set_cons_succ])
        refine wpAnyH_done (by kernel_rfl) ?_ _
        rcases HOUT.out with ⟨her, hzr, hze⟩ | ⟨her, hno⟩
        · have HJ2 := Lib.hid (HJ.out.snoc (l := l) (by rw [HFZ.out, hze]) hzr)
          have h0b : (er != 0) = false := by rw [her]; rfl
          clear her hzr hze HOUT
          have HBW8 := Lib.hid (bthen HBW.out HB8.out)
          have c8 : w8.cell? ⟨b, off + j, none⟩ = some (.slice A3 lx c3) := cell_on HB8.out c0
          have HBL := Lib.hid (rblock_any A3 lx c3 xs w8 (HR3.out.keep (Nat.le_refl _) HB8.out) HLX.out (by omega) HXB.out (fun h => by have := HN3.out h; omega))
          have HO8 := Lib.hid (own_below HO.out HB8.out)
          have HEV8 := Lib.hid (show ∀ y' ∈ Z ++ [(⟨tick, now, ⟨E, pp, q, F, x, y, t, D, X⟩⟩ : EZ)], EvO w8 y'.ev from fun y' hy => by
            rcases List.mem_append.1 hy with h | h
            · exact (HEV.out y' h).keep HB8.out
            · rw [List.mem_singleton.1 h]; exact HZ8.out)
          go_wp2_with fail
          refine HBL.out.mono ?_
          rintro e w9 ⟨A9, c9, rfl, _, _, hb9, _⟩
          obtain ⟨l9, hl9⟩ : ∃ l9, l9 = (blockL xs).length := ⟨_, rfl⟩
          rw [← hl9]
          have hll : l9 = l := by rw [hl9]; exact firstZ_len HB2'.out HFZ.out
          subst hll
          have HB9 := Lib.hid hb9
          have HO9 := Lib.hid (own_below HO8.out hb9)
          have HEV9 := Lib.hid (show ∀ y' ∈ Z ++ [(⟨tick, now, ⟨E, pp, q, F, x, y, t, D, X⟩⟩ : EZ)], EvO w9 y'.ev from fun y' hy => (HEV8.out y' hy).keep hb9)
          have HK9 := Lib.hid (HK8.out.below hb9 HK8.out.lt)
          have HBW9 := Lib.hid (bthen HBW8.out hb9)
          have hown := HO9.out
          have hsz9 : w2.heap.size ≤ w9.heap.size := HBW9.out.size
          have k0 : w9.cell? ⟨eb, 0, none⟩ = some (.bool tick) := by rw [HK9.out.cell 0]; rfl
          have k1 : w9.cell? ⟨eb, 1, none⟩ = some (.int .i64 now) := by rw [HK9.out.cell 1]; rfl
          have k2 : w9.cell? ⟨eb, 2, none⟩ = some (.int .i64 t) := by rw [HK9.out.cell 2]; rfl
          have k3 : w9.cell? ⟨eb, 3, none⟩ = some (.slice E pp q) := by rw [HK9.out.cell 3]; rfl
          have k4 : w9.cell? ⟨eb, 4, none⟩ = some (.slice F x y) := by rw [HK9.out.cell 4]; rfl
          have hw1 : IntKind.i64.wrap ((p : Int) + (l9 : Int)) = (p : Int) + (l9 : Int) := IntWalk.i64_in _ (by omega)
          clear hl9 hb9 c0 c8
          go_wp2_with (at_builtin; refine wpList_append_own_at _ rfl _ _ 33 rfl w2.heap.size 46 i0 (.agg #[.bool false, .int .i64 0, .int .i64 0, .slice none 0 0, .slice none 0 0]) 5 72 Tryd.underlying33 hi0 hz0 hz1 hz2 rfl (by decide) _ _ _ rfl (hown.alloc _) ⟨w9.heap.size, 0, none⟩ 1 1 (encEnt ⟨tick, now, ⟨E, pp, q, F, x, y, t, D, X⟩⟩) rfl rfl ?c1 ?c2 ?c3 ?c4 ?c5 ?_)
          case c1 => exact ent_new1 w9 _ _
          case c2 => exact one_encEnt _
          case c3 => unfold maxLen; omega
          case c4 => omega
          case c5 => simp; omega
          intro v' w4 hown' hgrow _ _
          have HA4 := Lib.hid (show Below w9.heap.size w9 (w9.alloc (.cells #[.bool tick, .int .i64 now, .int .i64 t, .slice E pp q, .slice F x y] 46)) from bpush (Below.refl _ _) _)
          have hown4 := own_below hown HA4.out
          have HEV4 := Lib.hid (show ∀ y' ∈ Z ++ [(⟨tick, now, ⟨E, pp, q, F, x, y, t, D, X⟩⟩ : EZ)], EvO w4 y'.ev from fun y' hy => ((HEV9.out y' hy).keep HA4.out).grown hown4 (by decide) hgrow)
          have HBW4 := Lib.hid (show Below w2.heap.size w2 w4 from (bthen HBW9.out HA4.out).grown hgrow (by have h1 := HBW9.out.size; have := HA4.out.size; omega) (fun g hg => (hown4.lt g hg).1))
          have HO4 := Lib.hid (show w4.ownsRow w2.heap.size 46 5 v' (j + 1) (cellsJ (Z ++ [(⟨tick, now, ⟨E, pp, q, F, x, y, t, D, X⟩⟩ : EZ)])) from by rw [cellsJ_app, encEnt_cells]; exact hown')
          have HK4 := Lib.hid (show j + 1 = (Z ++ [(⟨tick, now, ⟨E, pp, q, F, x, y, t, D, X⟩⟩ : EZ)]).length from by rw [List.length_append, ← HK.out]; rfl)
          clear hown hown' hgrow hown4 k0 k1 k2 k3 k4
          go_wp2_with fail
          go_roundw
          case rel => exact ⟨j + 1, p + l9, _, by omega, by omega, by omega, by go_num, by go_num, HK4, HO4, HEV4, HBW4, HJ2, HRN⟩
          case measure => simp [intOf]; omega
        · have HST := Lib.hid (show JStop L M (bs.drop p) from fun xs' l' h => by
            rw [HFZ.out] at h
            simp only [Option.some.injEq, Prod.mk.injEq] at h
            obtain ⟨rfl, _⟩ := h
            exact hno)
          have h0b : (er != 0) = true := by rw [bne_iff_ne]; exact her
          clear her hno HOUT c0
          go_wp2_with fail
          refine bodyPost_ret (v := .tuple #[u6, .int .i64 (p : Int)]) (by simp [results, Tryd.results12, go_sem]) rfl ?_
          exact FIN.out HST.out _ HB8.out
      · go_simp
        have hka : Blk (wr.drew.alloc (.cells #[.bool false, .int .i64 0, .int .i64 0, .slice none 0 0, .slice none 0 0] 46)) wr.heap.size 46 #[.bool false, .int .i64 0, .int .i64 0, .slice none 0 0, .slice none 0 0] := Blk.new _ _ _
        have HKA := Lib.hid hka
        clear hka
        refine hK.out _ _ (bpush hHeld _) (fun hHeld => ?_)
        clear hK K
        (try simp only [Act.put, List.setIfInBounds_toArray, List.set_cons_zero, List.set_cons_succ])
        refine wpAnyH_ready (rs := [5]) (by kernel_rfl) (by simp) ?_
        refine AllReadyH.cons rfl (fun K hK => ?_) AllReadyH.nil
        go_simp
        (go_at_call 32; refine (HDC.out _ hHeld).mono ?_; rintro e w3 ⟨z, er, rfl, hz3, hb3, hout⟩)
        obtain ⟨tick, now, ⟨E, pp, q, F, x, y, t, D, X⟩⟩ := z
        have hb13 : Below wr.heap.size wr w3 := bthen hHeld hb3
        have HB13 := Lib.hid hb13
        have HZ3 := Lib.hid hz3
        have HOUT := Lib.hid hout
        clear hz3 hout
        have HKA7 := Lib.hid (HKA.out.below hb3 HKA.out.lt)
        have HSZ7 := Lib.hid hb3.size
        refine hK.out _ _ hb13 (fun hHeld => ?_)
        clear hK K
        (try simp only [Act.put, List.setIfInBounds_toArray, List.set_cons_zero, List.set_cons_succ])
        refine take_want (i := 6) (v := ?v6k10) rfl (by kernel_rfl) (by kernel_rfl) (by kernel_rfl) (fun _ _ _ h => h) (by rfl) ?y6k10 (by assumption) ?r6k10
        case y6k10 => (intro w hSw; go_simp; all_goals with_reducible rfl)
        (try simp only [Act.put, List.setIfInBounds_toArray, List.set_cons_zero, List.set_cons_succ])
        refine take_want (i := 7) (v := ?v7k11) rfl (by kernel_rfl) (by kernel_rfl) (by kernel_rfl) (fun _ _ _ h => h) (by rfl) ?y7k11 (by assumption) ?r7k11
        case y7k11 => (intro w hSw; go_simp; all_goals with_reducible rfl)
        (try simp only [Act.put, List.setIfInBounds_toArray, List.set_cons_zero, List.set_cons_succ])
        refine take_want (i := 8) (v := ?v8k12) rfl (by kernel_rfl) (by kernel_rfl) (by kernel_rfl) (fun _ _ _ h => h) (by rfl) ?y8k12 (by assumption) ?r8k12
        case y8k12 => (intro w hSw; go_simp; all_goals with_reducible rfl)
        (try simp only [Act.put, List.setIfInBounds_toArray, List.set_cons_zero, List.set_cons_succ])
        refine wpAnyH_ready (rs := [10]) (by kernel_rfl) (by simp) ?_
        refine AllReadyH.cons rfl (fun K hK => ?_) AllReadyH.nil
        have hk7 := HKA7.out
        have y0 : w3.cell? ⟨wr.heap.size, 0, none⟩ = some (.bool false) := by rw [hk7.cell 0]; rfl
        have f0 : w3.frozen? ⟨wr.heap.size, 0, none⟩ = false := hk7.frozen 0
        have y1 : w3.cell? ⟨wr.heap.size, 1, none⟩ = some (.int .i64 0) := by rw [hk7.cell 1]; rfl
        have f1 : w3.frozen? ⟨wr.heap.size, 1, none⟩ = false := hk7.frozen 1
        have y2 : w3.cell? ⟨wr.heap.size, 2, none⟩ = some (.int .i64 0) := by rw [hk7.cell 2]; rfl
        have f2 : w3.frozen? ⟨wr.heap.size, 2, none⟩ = false := hk7.frozen 2
        have y3 : w3.cell? ⟨wr.heap.size, 3, none⟩ = some (.slice none 0 0) := by rw [hk7.cell 3]; rfl
        have f3 : w3.frozen? ⟨wr.heap.size, 3, none⟩ = false := hk7.frozen 3
        have y4 : w3.cell? ⟨wr.heap.size, 4, none⟩ = some (.slice none 0 0) := by rw [hk7.cell 4]; rfl
        have f4 : w3.frozen? ⟨wr.heap.size, 4, none⟩ = false := hk7.frozen 4
        clear hk7
        go_simp
        obtain ⟨w8, hw8⟩ : ∃ w8, w8 = ((((w3.setCell ⟨wr.heap.size, 0, none⟩ (.bool tick)).setCell ⟨wr.heap.size, 1, none⟩ (.int .i64 now)).setCell ⟨wr.heap.size, 2, none⟩ (.int .i64 t)).setCell ⟨wr.heap.size, 3, none⟩ (.slice E pp q)).setCell ⟨wr.heap.size, 4, none⟩ (.slice F x y) := ⟨_, rfl⟩
        obtain ⟨eb, heb⟩ : ∃ eb, eb = wr.heap.size := ⟨_, rfl⟩
        rw [← hw8, ← heb]
        have HB8 := Lib.hid (show Below wr.heap.size wr w8 from by rw [hw8]; exact bset (bset (bset (bset (bset HB13.out (Nat.le_refl _) _) (Nat.le_refl _) _) (Nat.le_refl _) _) (Nat.le_refl _) _) (Nat.le_refl _) _)
        have HK8 := Lib.hid (show Blk w8 eb 46 #[.bool tick, .int .i64 now, .int .i64 t, .slice E pp q, .slice F x y] from by
          rw [hw8, heb]
          exact ((((HKA7.out.set_ 0 _).set_ 1 _).set_ 2 _).set_ 3 _).set_ 4 _)
        have HZ8 := Lib.hid (show EvO w8 ⟨E, pp, q, F, x, y, t, D, X⟩ from by
          have f8 : Fr (fun i => i = wr.heap.size) w3 w8 := by
            rw [hw8]
            exact (((((Fr.refl (fun i => i = wr.heap.size) w3).set_ (.inl rfl) _).set_ (.inl rfl) _).set_ (.inl rfl) _).set_ (.inl rfl) _).set_ (.inl rfl) _
          exact HZ3.out.apartAt f8 HKA7.out)
        clear hw8 heb hb13 hb3 y0 y1 y2 y3 y4 f0 f1 f2 f3 f4
        refine hK.out _ _ HB8.out (fun hHeld => ?_)
        clear hK K
        (try simp only [Act.put, List.setIfInBounds_toArray, List.set_cons_zero, List.set_cons_succ])
        refine take_want (i := 11) (v := ?v11k13) rfl (by kernel_rfl) (by kernel_rfl) (by kernel_rfl) (fun _ _ _ h => h) (by rfl) ?y11k13 (by assumption) ?r11k13
        case y11k13 => (intro w hSw; go_simp; all_goals with_reducible rfl)
        (try simp only [Act.put, List.setIfInBounds_toArray, List.set_cons_zero, List.set_cons_succ])
        refine wpAnyH_done (by kernel_rfl) ?_ _
        rcases HOUT.out with ⟨her, hzr, hze⟩ | ⟨her, hno⟩
        · have HJ2 := Lib.hid (HJ.out.snoc (l := l) (by rw [HFZ.out, hze]) hzr)
          have h0b : (er != 0) = false := by rw [her]; rfl
          clear her hzr hze HOUT
          have HBW8 := Lib.hid (bthen HBW.out HB8.out)
          have c8 : w8.cell? ⟨b, off + j, none⟩ = some (.slice A3 lx c3) := cell_on HB8.out c0
          have HBL := Lib.hid (rblock_any A3 lx c3 xs w8 (HR3.out.keep (Nat.le_refl _) HB8.out) HLX.out (by omega) HXB.out (fun h => by have := HN3.out h; omega))
          have HO8 := Lib.hid (own_below HO.out HB8.out)
          have HEV8 := Lib.hid (show ∀ y' ∈ Z ++ [(⟨tick, now, ⟨E, pp, q, F, x, y, t, D, X⟩⟩ : EZ)], EvO w8 y'.ev from fun y' hy => by
            rcases List.mem_append.1 hy with h | h
            · exact (HEV.out y' h).keep HB8.out
            · rw [List.mem_singleton.1 h]; exact HZ8.out)
          go_wp2_with fail
          refine HBL.out.mono ?_
          rintro e w9 ⟨A9, c9, rfl, _, _, hb9, _⟩
          obtain ⟨l9, hl9⟩ : ∃ l9, l9 = (blockL xs).length := ⟨_, rfl⟩
          rw [← hl9]
          have hll : l9 = l := by rw [hl9]; exact firstZ_len HB2'.out HFZ.out
          subst hll
          have HB9 := Lib.hid hb9
          have HO9 := Lib.hid (own_below HO8.out hb9)
          have HEV9 := Lib.hid (show ∀ y' ∈ Z ++ [(⟨tick, now, ⟨E, pp, q, F, x, y, t, D, X⟩⟩ : EZ)], EvO w9 y'.ev from fun y' hy => (HEV8.out y' hy).keep hb9)
          have HK9 := Lib.hid (HK8.out.below hb9 HK8.out.lt)
          have HBW9 := Lib.hid (bthen HBW8.out hb9)
          have hown := HO9.out
          have hsz9 : w2.heap.size ≤ w9.heap.size := HBW9.out.size
          have k0 : w9.cell? ⟨eb, 0, none⟩ = some (.bool tick) := by rw [HK9.out.cell 0]; rfl
          have k1 : w9.cell? ⟨eb, 1, none⟩ = some (.int .i64 now) := by rw [HK9.out.cell 1]; rfl
          have k2 : w9.cell? ⟨eb, 2, none⟩ = some (.int .i64 t) := by rw [HK9.out.cell 2]; rfl
          have k3 : w9.cell? ⟨eb, 3, none⟩ = some (.slice E pp q) := by rw [HK9.out.cell 3]; rfl
          have k4 : w9.cell? ⟨eb, 4, none⟩ = some (.slice F x y) := by rw [HK9.out.cell 4]; rfl
          have hw1 : IntKind.i64.wrap ((p : Int) + (l9 : Int)) = (p : Int) + (l9 : Int) := IntWalk.i64_in _ (by omega)
          clear hl9 hb9 c0 c8
          go_wp2_with (at_builtin; refine wpList_append_own_at _ rfl _ _ 33 rfl w2.heap.size 46 i0 (.agg #[.bool false, .int .i64 0, .int .i64 0, .slice none 0 0, .slice none 0 0]) 5 72 Tryd.underlying33 hi0 hz0 hz1 hz2 rfl (by decide) _ _ _ rfl (hown.alloc _) ⟨w9.heap.size, 0, none⟩ 1 1 (encEnt ⟨tick, now, ⟨E, pp, q, F, x, y, t, D, X⟩⟩) rfl rfl ?c1 ?c2 ?c3 ?c4 ?c5 ?_)
          case c1 => exact ent_new1 w9 _ _
          case c2 => exact one_encEnt _
          case c3 => unfold maxLen; omega
          case c4 => omega
          case c5 => simp; omega
          intro v' w4 hown' hgrow _ _
          have HA4 := Lib.hid (show Below w9.heap.size w9 (w9.alloc (.cells #[.bool tick, .int .i64 now, .int .i64 t, .slice E pp q, .slice F x y] 46)) from bpush (Below.refl _ _) _)
          have hown4 := own_below hown HA4.out
          have HEV4 := Lib.hid (show ∀ y' ∈ Z ++ [(⟨tick, now, ⟨E, pp, q, F, x, y, t, D, X⟩⟩ : EZ)], EvO w4 y'.ev from fun y' hy => ((HEV9.out y' hy).keep HA4.out).grown hown4 (by decide) hgrow)
          have HBW4 := Lib.hid (show Below w2.heap.size w2 w4 from (bthen HBW9.out HA4.out).grown hgrow (by have h1 := HBW9.out.size; have := HA4.out.size; omega) (fun g hg => (hown4.lt g hg).1))
          have HO4 := Lib.hid (show w4.ownsRow w2.heap.size 46 5 v' (j + 1) (cellsJ (Z ++ [(⟨tick, now, ⟨E, pp, q, F, x, y, t, D, X⟩⟩ : EZ)])) from by rw [cellsJ_app, encEnt_cells]; exact hown')
          have HK4 := Lib.hid (show j + 1 = (Z ++ [(⟨tick, now, ⟨E, pp, q, F, x, y, t, D, X⟩⟩ : EZ)]).length from by rw [List.length_append, ← HK.out]; rfl)
          clear hown hown' hgrow hown4 k0 k1 k2 k3 k4
          go_wp2_with fail
          go_roundw
          case rel => exact ⟨j + 1, p + l9, _, by omega, by omega, by omega, by go_num, by go_num, HK4, HO4, HEV4, HBW4, HJ2, HRN⟩
          case measure => simp [intOf]; omega
        · have HST := Lib.hid (show JStop L M (bs.drop p) from fun xs' l' h => by
            rw [HFZ.out] at h
            simp only [Option.some.injEq, Prod.mk.injEq] at h
            obtain ⟨rfl, _⟩ := h
            exact hno)
          have h0b : (er != 0) = true := by rw [bne_iff_ne]; exact her
          clear her hno HOUT c0
          go_wp2_with fail
          refine bodyPost_ret (v := .tuple #[u6, .int .i64 (p : Int)]) (by simp [results, Tryd.results12, go_sem]) rfl ?_
          exact FIN.out HST.out _ HB8.out
    · obtain rfl : j = nk := by omega
      have hge : ¬ (j : Int) < (j : Int) := by omega
      have HST := Lib.hid (show JStop L M (bs.drop p) from fun xs l h => by
        have h1 : (blocksZ (bs.drop p)).1 = [] := by rw [← HRJ.out]; exact List.drop_of_length_le (by rw [HNK.out]; exact Nat.le_refl _)
        rw [blocks_end h1] at h
        cases h)
      clear hlt
      go_wp2_with fail
      refine bodyPost_ret (v := .tuple #[u6, .int .i64 (p : Int)]) (by simp [results, Tryd.results12, go_sem]) rfl ?_
      exact FIN.out HST.out _ (Below.refl _ _)
end Go.Proofs.YthogafecplhckaaDoor
