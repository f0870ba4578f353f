/- MergeOrder (4), where its lists are no greater than so. -/
import Derived.Test.YtbccjkjibffbkaaLM
import Derived.Test.YtbccjkjibffbkaaLV
import Derived.Test.YtbccjkjibffbkaaKN
namespace Go.Proofs.Ytbccjkjibffbkaa
open Go.RowKit Go.Shelf
set_option linter.unusedSimpArgs false
set_option linter.unusedVariables false
/-- The lists, turned about. -/
structure Bk (w : World) (v : Value) (L : List Le) (j : Nat) (W : World) : Prop where
  own : W.ownsRow w.heap.size 28 1 v (L.drop j).reverse.length ((L.drop j).reverse.map encE)
  bel : Below w.heap.size w W
  le : j ≤ L.length
theorem Bk.keep {w W W' : World} {v : Value} {L : List Le} {j : Nat} (h : Bk w v L j W) (hb : Below W.heap.size W W') : Bk w v L j W' := ⟨own_below h.own hb, h.bel.trans (hb.mono h.bel.size), h.le⟩
theorem drop_rev {L : List Le} {j : Nat} (h : j < L.length) : (L.drop j).reverse = (L.drop (j + 1)).reverse ++ [L[j]] := by
  rw [List.drop_eq_getElem_cons h, List.reverse_cons]
theorem Bk.more {w W W3 : World} {v v3 : Value} {L : List Le} {j : Nat} (h : Bk w v L (j + 1) W) (hj : j < L.length) (ho : W3.ownsRow w.heap.size 28 1 v3 ((L.drop (j + 1)).reverse.length + 1) ((L.drop (j + 1)).reverse.map encE ++ [encE L[j]])) (hg : W.grownBy W3 v.ownBlock) : Bk w v3 L j W3 := by
  refine ⟨?_, h.bel.trans (grown_below4 h.own hg h.bel.size), by omega⟩
  rw [drop_rev hj, List.length_append, List.map_append]
  exact ho
theorem joined_q {q dq : Nat} {K O : List RV} (hK : ∀ a ∈ K, RowQ q dq a) (h : FoldOf K O) (hO : ∀ a ∈ O, OkR q a) : ∀ a ∈ O, RowQ q dq a := fun a ha => by
  obtain ⟨b, hb, e⟩ := h.mem ha
  exact ⟨hO a ha, by rw [(cmpV_zero.1 e).1]; exact (hK b hb).dims⟩
/-- The lists merged one after the other. -/
structure Zs (q : Nat) (L : List Le) (j : Nat) (v : Value) (e : Int) (W : World) : Prop where
  z : ∃ x : Le, v = encE x ∧ LeOk W x ∧ (e = 0 → (∀ z ∈ x.Z, OkR q z.2) ∧ SrtD x.Z ∧ x.Z.length ≤ ((L.take j).map Le.Z).flatten.length ∧ SumOf (((L.take j).map Le.Z).flatten.map Prod.snd) (x.Z.map Prod.snd))
theorem Zs.keep {q j : Nat} {L : List Le} {v : Value} {e : Int} {W W' : World} (h : Zs q L j v e W) (hb : Below W.heap.size W W') : Zs q L j v e W' := by
  obtain ⟨x, h1, h2, h3⟩ := h.z
  exact ⟨x, h1, h2.keep hb, h3⟩
theorem Zs.more {q j : Nat} {L : List Le} {x : Le} {Y : List RZ} {e : Int} {v : Value} {W : World} {B : Nat} (hj : j < L.length) (hq : ∀ z ∈ (L.map Le.Z).flatten, OkR q z.2) (h : (∀ z ∈ x.Z, OkR q z.2) ∧ SrtD x.Z ∧ x.Z.length ≤ ((L.take j).map Le.Z).flatten.length ∧ SumOf (((L.take j).map Le.Z).flatten.map Prod.snd) (x.Z.map Prod.snd))
    (hl : listsR [x, L[j]] = (Y.map Prod.snd, e)) (ho : W.ownsRow B 39 4 v Y.length (cellsR Y)) (hy : ∀ y ∈ Y, Owned B W y) : Zs q L (j + 1) v e W := by
  obtain ⟨_, A, c, rfl, hr, hc, hm, hn⟩ := own_sliceR ho
  refine ⟨⟨A, Y.length, c, Y⟩, rfl, ⟨⟨hr, fun z hz => (hy z hz).good⟩, rfl, hc, by unfold maxLen at hm; exact hm, hn⟩, ?_⟩
  rintro rfl
  have hf : (([x, L[j]] : List Le).map Le.Z).flatten = x.Z ++ L[j].Z := by show x.Z ++ (L[j].Z ++ []) = _; rw [List.append_nil]
  have hqq : ∀ z ∈ (([x, L[j]] : List Le).map Le.Z).flatten, OkR q z.2 := fun z hz => by
    rw [hf] at hz
    exact (List.mem_append.1 hz).elim (h.1 z) (fun h2 => hq z (flat_at (List.getElem_mem hj) h2))
  obtain ⟨h1, h2, h3, h4⟩ := lists_sum hqq hl
  have hl2 := hl
  unfold listsR at hl2
  rw [if_pos h1] at hl2
  have hkn := keysN_refF (q := q) (fun a ha => by obtain ⟨z, hz, rfl⟩ := List.mem_map.1 ha; exact hqq z hz) hl2
  have hle := keysN_le ((([x, L[j]] : List Le).map Le.Z).flatten.map Prod.snd)
  rw [hkn, List.length_map, List.length_map, hf, List.length_append] at hle
  rw [hf, List.map_append] at h2
  refine ⟨h3, h4, by rw [flat_take hj, List.length_append]; have := h.2.2.1; show Y.length ≤ _; omega, ?_⟩
  rw [flat_take hj, List.map_append]
  exact h.2.2.2.more h2
set_option maxRecDepth 100000 in
set_option maxHeartbeats 16000000 in
theorem order_walk (A B C : Option Addr) (n c m d k cap : Nat) (N M : List ByteArray) (L : List Le) (w : World) (hs : Sch w A B n c m d N M) (hL : Ls0 w C L) (hk : k = L.length) (hkc : k ≤ cap)
    (hk2 : k ≤ 1048576) (hbr : (L.map Le.Z).flatten.length ≤ 1000000) (hbd : ∀ x ∈ L, ∀ z ∈ x.Z, z.2.dims.length ≤ 1048576 ∧ z.2.aggs.length ≤ 1048576) :
    Calls Try.prog 4 #[.agg #[.slice A n c, .slice B m d], .slice C k cap] w fun e w' => e = .returned (.bool true) ∧ Below w.heap.size w w' := by
  obtain ⟨W1, hW1⟩ : ∃ W1, W1 = w.alloc (.cells #[.slice A n c, .slice B m d] 24) := ⟨_, rfl⟩
  have hb1 : Below w.heap.size w W1 := by rw [hW1]; exact bpush (Below.refl _ _) _
  have s0 : W1.cell? ⟨w.heap.size, 0, none⟩ = some (.slice A n c) := by rw [hW1]; exact cell_made rfl rfl
  have s1 : W1.cell? ⟨w.heap.size, 1, none⟩ = some (.slice B m d) := by rw [hW1]; exact cell_made rfl rfl
  obtain ⟨r, hr⟩ := bool_of (fitsL N M L)
  have HFT := Lib.hid (fitsl_any A B C n c m d k cap N M L W1 (hs.keep hb1) (hL.keep hb1) hk (by omega) r hr)
  have HIN := Lib.hid (show LsIn W1 C L from ⟨(hL.keep hb1).row, fun x hx => by
    have h0 := (hL.keep hb1).ok x hx
    exact ⟨⟨h0.row, fun z hz => { h0.good z hz with sd := by have := (h0.good z hz).nd; have := (hbd x hx z hz).1; omega, sg := by have := (h0.good z hz).ng; have := (hbd x hx z hz).2; omega }⟩, h0.len, h0.cap, h0.max, h0.nil⟩, by omega⟩)
  have HB1 := Lib.hid hb1
  have HK := Lib.hid hk
  have HR := Lib.hid hr
  have HT := Lib.hid hbr
  have HW1 := Lib.hid hW1
  have HAL := Lib.hid (fun W => alive_any W)
  have HLG := Lib.hid (fun (W : World) (h : Below W1.heap.size W1 W) => lists_gen M.length C k cap L W (HIN.out.keep h) hk (by omega) hbr)
  obtain ⟨sb, hsb⟩ : ∃ sb, sb = w.heap.size := ⟨_, rfl⟩
  have HSB := Lib.hid hsb
  clear hs hL hk hr hW1 hb1 hsb hbr hbd
  go_enter Try.func4, Try.ntmps4
  go_upto_region 1 with fail
  rw [← HW1.out, ← HSB.out]
  rw [← HSB.out] at s0 s1
  go_upto_region 3 with (first | (go_at_call 7; refine HFT.out.mono ?_; rintro e w2 ⟨rfl, hb⟩; have HB2 := Lib.hid hb; clear hb) | (go_at_call 9; refine (HLG.out _ HB2.out).mono ?_; rintro e w3 ⟨v3, Y3, x3, rfl, hl3, ho3, hy3, hb3⟩; have HL3 := Lib.hid hl3; have HO3 := Lib.hid ho3; have HY3 := Lib.hid hy3; have HB3 := Lib.hid hb3; clear hl3 ho3 hy3 hb3))
  have HB13 := Lib.hid (bthen HB2.out HB3.out)
  by_cases hok : r = true ∧ x3 = 0
  case neg =>
    have hz : r = false ∨ (r = true ∧ x3 ≠ 0) := by
      cases r <;> simp at hok ⊢
      exact hok
    rcases hz with rfl | ⟨rfl, hz⟩
    · clear hok
      go_wp2_with (go_at_call 8; refine (HAL.out _).mono ?_; rintro e w4 ⟨rfl, hb⟩; have HB4 := Lib.hid hb; clear hb)
      go_ret
      exact ⟨rfl, HB1.out.trans ((bthen HB13.out HB4.out).mono HB1.out.size)⟩
    · have z1 : (x3 != 0) = true := by rw [bne_iff_ne]; exact hz
      clear hok hz
      go_wp2_with (go_at_call 8; refine (HAL.out _).mono ?_; rintro e w4 ⟨rfl, hb⟩; have HB4 := Lib.hid hb; clear hb)
      go_ret
      exact ⟨rfl, HB1.out.trans ((bthen HB13.out HB4.out).mono HB1.out.size)⟩
  case pos =>
  obtain ⟨rfl, rfl⟩ := hok
  have hft := HR.out.1 rfl
  have hk8 : k ≤ 8 := by have := hft.2.1; have := HK.out; omega
  have HQ := Lib.hid (fitsL_q hft)
  have HT2 := Lib.hid (show (L.map Le.Z).flatten.length ≤ 200 from hft.2.2.1)
  have hl3 := HL3.out (fun z hz => (HQ.out z hz).ok)
  have HLS := Lib.hid (lists_sum (fun z hz => (HQ.out z hz).ok) hl3)
  have hlen3 : statsK L = Y3.length := by
    unfold statsK
    rw [if_pos HLS.out.1]
    have h := hl3
    unfold listsR at h
    rw [if_pos HLS.out.1] at h
    rw [keysN_refF (q := M.length) (fun a ha => by obtain ⟨z, hz, rfl⟩ := List.mem_map.1 ha; exact (HQ.out z hz).ok) h, List.length_map]
  have HSK := Lib.hid hlen3
  obtain ⟨i8, hi8, hz8, hz9, hz10⟩ := info_parts info28
  clear hft hl3 hlen3 HLG HFT HL3
  go_upto_region 7 with fail
  go_loopw [8, 9] (fun v8 v9 wr => ∃ (j : Nat) (v : Value), v = v8 ∧ v9 = .int .i64 ((j : Int) - 1) ∧ j ≤ k ∧ Hid (Bk w3 v L j wr)) (fun _ v9 _ => ((intOf v9) + 1).toNat)
  case atStart => exact ⟨k, _, rfl, rfl, Nat.le_refl _, Lib.hid ⟨by rw [List.drop_of_length_le (by rw [← HK.out]; exact Nat.le_refl _)]; exact World.ownsRow_nil _ _ _ _, Below.refl _ _, by rw [← HK.out]; exact Nat.le_refl _⟩⟩
  case round =>
    obtain ⟨j, v, rfl, rfl, hjk, HBK⟩ := hrel
    obtain ⟨wo, rfl⟩ : ∃ wo : World, wo = wr := ⟨_, rfl⟩
    by_cases hj : j = 0
    case neg =>
      obtain ⟨j, rfl⟩ : ∃ i, j = i + 1 := ⟨j - 1, by omega⟩
      have hkz0 : (0 : Int) ≤ (j : Int) := by omega
      have hkz1 : (j : Int) < (k : Int) := by omega
      have hjL : j < L.length := by have := HK.out; omega
      obtain ⟨b, off, hAe, c0, hok⟩ := ((HIN.out.keep HB13.out).keep HBK.out.bel).at hjL
      have hrl : (L.drop (j + 1)).reverse.length ≤ 8 := by rw [List.length_reverse, List.length_drop]; have := HK.out; omega
      obtain ⟨x, hx⟩ : ∃ x, x = L[j] := ⟨_, rfl⟩
      rw [← hx] at c0 hok
      have HX := Lib.hid (show ∃ h : j < L.length, x = L[j] from ⟨hjL, hx⟩)
      have HBA := Lib.hid (HBK.out.keep (bpush (Below.refl wo.heap.size wo) (.cells #[.slice x.A x.n x.c] 28)))
      have hsz : w3.heap.size ≤ wo.heap.size := HBK.out.bel.size
      subst hAe
      clear hj hx hjL hok
      go_wp2_with (at_builtin; refine wpList_append_own_at _ rfl _ _ 25 rfl w3.heap.size 28 i8 (.slice none 0 0) 1 24 Try.underlying25 hi8 hz8 hz9 hz10 rfl (by decide) v (L.drop (j + 1)).reverse.length ((L.drop (j + 1)).reverse.map encE) rfl HBA.out.own ⟨wo.heap.size, 0, none⟩ 1 1 [.slice x.A x.n x.c] rfl rfl (Row.made rfl rfl).at' (by intro u hu; rw [List.mem_singleton.1 hu]; rfl) (by unfold maxLen; omega) (by omega) (by simp; omega) ?_; intro v4 w4 ho4 hg4 _ _)
      have HBN := Lib.hid (show Bk w3 v4 L j w4 by
        obtain ⟨h, hx⟩ := HX.out
        exact HBA.out.more h (by rw [← hx]; exact ho4) hg4)
      clear ho4 hg4 c0
      go_wp2_with fail
      go_roundw
      case rel => exact ⟨j, v4, rfl, by first | rfl | go_num, by omega, HBN⟩
      case measure => simp [intOf] <;> omega
    case pos =>
    subst hj
    have hkk : (L.drop 0).reverse.length = k := by rw [List.length_reverse, List.drop_zero]; exact HK.out.symm
    have hown := HBK.out.own
    rw [hkk] at hown
    obtain ⟨bA, bc, rfl, hbr, _, _⟩ := own_slice hown
    have HBL := Lib.hid (show LsIn wo bA L.reverse from ⟨by rw [List.drop_zero] at hbr; exact hbr, fun x hx => ((HIN.out.keep HB13.out).keep HBK.out.bel).ok x (List.mem_reverse.1 hx), by rw [List.length_reverse, ← HK.out]; omega⟩)
    have hrq : ∀ z ∈ (L.reverse.map Le.Z).flatten, OkR M.length z.2 := fun z hz => (HQ.out z ((rev_perm L).symm.subset hz)).ok
    have HCB := Lib.hid (lists_any M.length bA k bc L.reverse wo HBL.out (by rw [List.length_reverse]; exact HK.out) (by rw [List.length_reverse, ← HK.out]; omega) hrq (by rw [(rev_perm L).symm.length_eq]; have := HT2.out; omega))
    have HBO := Lib.hid HBK.out.bel
    clear hkk hown hbr hrq HBK HBL
    go_upto_region 14 with (go_at_call 9; refine HCB.out.mono ?_; rintro e w5 ⟨v5, Y5, x5, rfl, hl5, ho5, hy5, hb5⟩; have HL5 := Lib.hid hl5; have HO5 := Lib.hid ho5; have HY5 := Lib.hid hy5; have HB5 := Lib.hid (bthen HBO.out hb5); clear hl5 ho5 hy5 hb5)
    have HB15 := Lib.hid (bthen HB13.out HB5.out)
    clear HCB
    go_loopw [12, 13, 14] (fun v12 v13 v14 wr => ∃ (j : Nat) (v : Value) (e : Int), v = v12 ∧ v13 = .int .i64 e ∧ v14 = .int .i64 j ∧ j ≤ k ∧ Hid (Below w5.heap.size w5 wr) ∧ Hid (Zs M.length L j v e wr)) (fun _ _ v14 _ => k - (intOf v14).toNat)
    case atStart => exact ⟨0, _, 0, rfl, rfl, rfl, Nat.zero_le _, Lib.hid (Below.refl _ _), Lib.hid ⟨⟨none, 0, 0, []⟩, rfl, LeOk.nilL _, fun _ => ⟨fun z hz => absurd hz List.not_mem_nil, fun i hi => absurd hi (by simp), Nat.le_refl _, SumOf.nil⟩⟩⟩
    case round =>
      obtain ⟨j, v, e, rfl, rfl, rfl, hjk, HBJ, HZS⟩ := hrel
      obtain ⟨wj, rfl⟩ : ∃ wj : World, wj = wr := ⟨_, rfl⟩
      by_cases hc : j < k ∧ e = 0
      case pos =>
        obtain ⟨hlt, rfl⟩ := hc
        have hj0 : (0 : Int) ≤ (j : Int) := by omega
        have hj1 : (j : Int) < (k : Int) := by omega
        have hjL : j < L.length := by have := HK.out; omega
        obtain ⟨b, off, hAe, c0, hok⟩ := ((HIN.out.keep HB15.out).keep HBJ.out).at hjL
        obtain ⟨x, rfl, hx1, hx2⟩ := HZS.out.z
        have hz := hx2 rfl
        obtain ⟨y, hy⟩ : ∃ y, y = L[j] := ⟨_, rfl⟩
        rw [← hy] at c0 hok
        have hyq : ∀ z ∈ y.Z, OkR M.length z.2 := fun z hz => (HQ.out z (flat_at (by rw [hy]; exact List.getElem_mem hjL) hz)).ok
        have hlx : x.Z.length + y.Z.length ≤ 200 := by
          have h1 := flat_len (L := L) (k := j + 1)
          rw [flat_take hjL, List.length_append, ← hy] at h1
          have := hz.2.2.1; have := HT2.out; omega
        have HLX := Lib.hid (show Calls Try.prog 9 #[.slice (some ⟨wj.heap.size, 0, none⟩) 2 2] (wj.alloc (.cells #[.slice x.A x.n x.c, .slice y.A y.n y.c] 28)) (ListsPost (wj.alloc (.cells #[.slice x.A x.n x.c, .slice y.A y.n y.c] 28)) [x, y]) by
          have h := ls_built (w := wj) (L := [x, y]) (fun u hu => by
            simp only [List.mem_cons, List.not_mem_nil, or_false] at hu
            rcases hu with rfl | rfl
            · exact hx1
            · exact hok) (by show 2 ≤ 1000; decide) (by simp)
          have hf : (([x, y] : List Le).map Le.Z).flatten = x.Z ++ y.Z := by show x.Z ++ (y.Z ++ []) = _; rw [List.append_nil]
          exact lists_any M.length (some ⟨wj.heap.size, 0, none⟩) 2 2 _ _ h rfl (by show 2 ≤ 1900000; decide) (by rw [hf]; exact fun z hz2 => (List.mem_append.1 hz2).elim (hz.1 z) (hyq z)) (by rw [hf, List.length_append]; omega))
        have HMO := Lib.hid (show ∀ (Y : List RZ) (e : Int) (v : Value) (W : World) (B : Nat), listsR [x, y] = (Y.map Prod.snd, e) → W.ownsRow B 39 4 v Y.length (cellsR Y) → (∀ y ∈ Y, Owned B W y) → Zs M.length L (j + 1) v e W from fun Y e v W B h1 h2 h3 => by
          rw [hy] at h1
          exact Zs.more hjL (fun z hz => (HQ.out z hz).ok) hz h1 h2 h3)
        have ee : encE x = .slice x.A x.n x.c := rfl
        rw [ee]
        subst hAe
        clear hy hok hx1 hx2 hz hyq hlx hlt hjL ee
        go_wp2_with (go_at_call 9; refine HLX.out.mono ?_; rintro e w6 ⟨v6, Y6, x6, rfl, hl6, ho6, hy6, hb6⟩; have HZ6 := Lib.hid (HMO.out Y6 x6 v6 w6 _ hl6 ho6 hy6); have HB6 := Lib.hid (show Below w5.heap.size w5 w6 from (bpush HBJ.out _).trans (hb6.mono (by simp; have := HBJ.out.size; omega))); clear hl6 ho6 hy6 hb6)
        go_roundw
        case rel => exact ⟨j + 1, v6, x6, rfl, rfl, by go_num, by omega, HB6, HZ6⟩
        case measure => simp [intOf]; omega
      case neg =>
      obtain ⟨x, rfl, hx1, hx2⟩ := HZS.out.z
      obtain ⟨_, v3A, v3c, rfl, hvr3, hvc3, hvm3, hvn3⟩ := own_sliceR HO3.out
      obtain ⟨_, v5A, v5c, rfl, hvr5, hvc5, hvm5, _⟩ := own_sliceR HO5.out
      have hb3j : Below w3.heap.size w3 wj := bthen HB5.out HBJ.out
      have hx3 : LeOk wj ⟨v3A, Y3.length, v3c, Y3⟩ := ⟨⟨hvr3.keep (Nat.le_refl _) hb3j, fun y hy => ((HY3.out y hy).good).keep hb3j⟩, rfl, hvc3, by unfold maxLen at hvm3; exact hvm3, hvn3⟩
      obtain ⟨r1, hr1⟩ := bool_of (Y3.map Prod.snd = Y5.map Prod.snd)
      obtain ⟨r2, hr2⟩ := bool_of (Y3.map Prod.snd = x.Z.map Prod.snd)
      have h1 : x5 = 0 → r1 = true := fun h0 => hr1.2 (by
        have hl5 := HL5.out
        rw [h0] at hl5
        obtain ⟨_, h2, _, _⟩ := lists_sum (q := M.length) (fun z hz => (HQ.out z ((rev_perm L).symm.subset hz)).ok) hl5
        exact HLS.out.2.1.sum.uniq h2.sum ((rev_perm L).map Prod.snd))
      have h2 : e = 0 → r2 = true := fun h0 => hr2.2 (by
        have hjk2 : j = k := by
          by_cases h : j < k
          · exact absurd ⟨h, h0⟩ hc
          · omega
        have h3 := (hx2 h0).2.2.2
        rw [List.take_of_length_le (by rw [hjk2]; exact Nat.le_of_eq HK.out.symm)] at h3
        exact HLS.out.2.1.sum.uniq h3 (List.Perm.refl _))
      have HS1 := Lib.hid (show Calls Try.prog 13 #[.slice v3A Y3.length v3c, .slice v5A Y5.length v5c] wj fun e w' => e = .returned (.bool r1) ∧ Below wj.heap.size wj w' from
        refrows_any v3A v5A Y3.length v3c Y5.length v5c (Y3.map Prod.snd) (Y5.map Prod.snd) wj hx3.rows.rowsM (RowsC.rowsM ⟨hvr5.keep (Nat.le_refl _) HBJ.out, fun y hy => ((HY5.out y hy).good).keep HBJ.out⟩) (by rw [List.length_map]) (by rw [List.length_map]) (by unfold maxLen at hvm3; omega) (by unfold maxLen at hvm5; omega) r1 hr1)
      have HS2 := Lib.hid (show ∀ W, Below wj.heap.size wj W → Calls Try.prog 13 #[.slice v3A Y3.length v3c, .slice x.A x.n x.c] W fun e w' => e = .returned (.bool r2) ∧ Below W.heap.size W w' from fun W h =>
        refrows_any v3A x.A Y3.length v3c x.n x.c (Y3.map Prod.snd) (x.Z.map Prod.snd) W (hx3.keep h).rows.rowsM (hx1.keep h).rows.rowsM (by rw [List.length_map]) (by rw [List.length_map]; exact hx1.len) (by unfold maxLen at hvm3; omega) (Nat.le_trans hx1.cap hx1.max) r2 hr2)
      have hjq := joined_q (q := M.length) (dq := N.length) (fun a ha => by obtain ⟨z, hz, rfl⟩ := List.mem_map.1 ha; exact HQ.out z hz) HLS.out.2.1 (fun a ha => by obtain ⟨z, hz, rfl⟩ := List.mem_map.1 ha; exact HLS.out.2.2.1 z hz)
      have HSO := Lib.hid (show ∀ W, Below wj.heap.size wj W → Calls Try.prog 14 #[.slice v3A Y3.length v3c] W fun e w' => e = .returned (.bool true) ∧ Below W.heap.size W w' from fun W h => by
        have h3 := refsrt_one (hx3.keep h) (fun z hz => hjq z.2 (List.mem_map.2 ⟨z, hz, rfl⟩))
        rw [show srtB Y3 = true from (srtB_iff _).2 HLS.out.2.2.2] at h3
        exact h3)
      have HST := Lib.hid (show ∀ W, Below wj.heap.size wj W → Calls Try.prog 11 #[.slice C k cap] W (StatsPost W L) from fun W h => stats_any C k cap L W (((HIN.out.keep HB15.out).keep HBJ.out).keep h) HK.out (by have := HK.out; omega) (by have := HT2.out; omega))
      have HBE := Lib.hid (show Below w.heap.size w wj from HB1.out.trans ((bthen HB15.out HBJ.out).mono HB1.out.size))
      have HCC := Lib.hid hc
      have HH1 := Lib.hid h1
      have HH2 := Lib.hid h2
      have ee : encE x = .slice x.A x.n x.c := rfl
      rw [ee]
      clear hx1 hx2 hvr3 hvc3 hvm3 hvn3 hvr5 hvc5 hvm5 hb3j hx3 hr1 hr2 h1 h2 hjq ee HZS
      by_cases hx5 : x5 = 0
      case pos =>
        subst hx5
        obtain rfl : r1 = true := HH1.out rfl
        by_cases he0 : e = 0
        case pos =>
          subst he0
          obtain rfl : r2 = true := HH2.out rfl
          have hj2 : ¬ (j : Int) < (k : Int) := fun h => hc ⟨by omega, rfl⟩
          clear hc
          go_upto_region 18 with (go_at_call 13; refine HS1.out.mono ?_; rintro e9 w7 ⟨rfl, hb⟩; have HB7 := Lib.hid hb; clear hb)
          go_upto_region 19 with (go_at_call 13; refine (HS2.out _ HB7.out).mono ?_; rintro e9 w8 ⟨rfl, hb⟩; have HB8 := Lib.hid (bthen HB7.out hb); clear hb)
          go_upto_region 20 with (go_at_call 14; refine (HSO.out _ HB8.out).mono ?_; rintro e9 w9 ⟨rfl, hb⟩; have HB9 := Lib.hid (bthen HB8.out hb); clear hb)
          go_upto_region 21 with (go_at_call 11; refine (HST.out _ HB9.out).mono ?_; rintro e9 w10 ⟨rfl, hb⟩; have HB10 := Lib.hid (bthen HB9.out hb); clear hb)
          rw [HSK.out]
          go_wp2_with (go_at_call 8; refine (HAL.out _).mono ?_; rintro e9 w11 ⟨rfl, hb⟩; have HB11 := Lib.hid hb; clear hb)
          go_ret
          exact ⟨by simp, HBE.out.trans ((bthen HB10.out HB11.out).mono HBE.out.size)⟩
        case neg =>
          have ze : (e != 0) = true := by rw [bne_iff_ne]; exact he0
          have ze2 : (e == 0) = false := by rw [beq_eq_false_iff_ne]; exact he0
          by_cases hj2 : (j : Int) < (k : Int)
          · clear hc he0
            go_upto_region 18 with (go_at_call 13; refine HS1.out.mono ?_; rintro e9 w7 ⟨rfl, hb⟩; have HB7 := Lib.hid hb; clear hb)
            go_upto_region 19 with (go_at_call 13; refine (HS2.out _ HB7.out).mono ?_; rintro e9 w8 ⟨rfl, hb⟩; have HB8 := Lib.hid (bthen HB7.out hb); clear hb)
            go_upto_region 20 with (go_at_call 14; refine (HSO.out _ HB8.out).mono ?_; rintro e9 w9 ⟨rfl, hb⟩; have HB9 := Lib.hid (bthen HB8.out hb); clear hb)
            go_upto_region 21 with (go_at_call 11; refine (HST.out _ HB9.out).mono ?_; rintro e9 w10 ⟨rfl, hb⟩; have HB10 := Lib.hid (bthen HB9.out hb); clear hb)
            rw [HSK.out]
            go_wp2_with (go_at_call 8; refine (HAL.out _).mono ?_; rintro e9 w11 ⟨rfl, hb⟩; have HB11 := Lib.hid hb; clear hb)
            go_ret
            exact ⟨by simp, HBE.out.trans ((bthen HB10.out HB11.out).mono HBE.out.size)⟩
          · clear hc he0
            go_upto_region 18 with (go_at_call 13; refine HS1.out.mono ?_; rintro e9 w7 ⟨rfl, hb⟩; have HB7 := Lib.hid hb; clear hb)
            go_upto_region 19 with (go_at_call 13; refine (HS2.out _ HB7.out).mono ?_; rintro e9 w8 ⟨rfl, hb⟩; have HB8 := Lib.hid (bthen HB7.out hb); clear hb)
            go_upto_region 20 with (go_at_call 14; refine (HSO.out _ HB8.out).mono ?_; rintro e9 w9 ⟨rfl, hb⟩; have HB9 := Lib.hid (bthen HB8.out hb); clear hb)
            go_upto_region 21 with (go_at_call 11; refine (HST.out _ HB9.out).mono ?_; rintro e9 w10 ⟨rfl, hb⟩; have HB10 := Lib.hid (bthen HB9.out hb); clear hb)
            rw [HSK.out]
            go_wp2_with (go_at_call 8; refine (HAL.out _).mono ?_; rintro e9 w11 ⟨rfl, hb⟩; have HB11 := Lib.hid hb; clear hb)
            go_ret
            exact ⟨by simp, HBE.out.trans ((bthen HB10.out HB11.out).mono HBE.out.size)⟩
      case neg =>
        have zx : (x5 != 0) = true := by rw [bne_iff_ne]; exact hx5
        clear hx5
        by_cases he0 : e = 0
        case pos =>
          subst he0
          obtain rfl : r2 = true := HH2.out rfl
          have hj2 : ¬ (j : Int) < (k : Int) := fun h => hc ⟨by omega, rfl⟩
          clear hc
          go_upto_region 18 with (go_at_call 13; refine HS1.out.mono ?_; rintro e9 w7 ⟨rfl, hb⟩; have HB7 := Lib.hid hb; clear hb)
          go_upto_region 19 with (go_at_call 13; refine (HS2.out _ HB7.out).mono ?_; rintro e9 w8 ⟨rfl, hb⟩; have HB8 := Lib.hid (bthen HB7.out hb); clear hb)
          go_upto_region 20 with (go_at_call 14; refine (HSO.out _ HB8.out).mono ?_; rintro e9 w9 ⟨rfl, hb⟩; have HB9 := Lib.hid (bthen HB8.out hb); clear hb)
          go_upto_region 21 with (go_at_call 11; refine (HST.out _ HB9.out).mono ?_; rintro e9 w10 ⟨rfl, hb⟩; have HB10 := Lib.hid (bthen HB9.out hb); clear hb)
          rw [HSK.out]
          go_wp2_with (go_at_call 8; refine (HAL.out _).mono ?_; rintro e9 w11 ⟨rfl, hb⟩; have HB11 := Lib.hid hb; clear hb)
          go_ret
          exact ⟨by simp, HBE.out.trans ((bthen HB10.out HB11.out).mono HBE.out.size)⟩
        case neg =>
          have ze : (e != 0) = true := by rw [bne_iff_ne]; exact he0
          have ze2 : (e == 0) = false := by rw [beq_eq_false_iff_ne]; exact he0
          by_cases hj2 : (j : Int) < (k : Int)
          · clear hc he0
            go_upto_region 18 with (go_at_call 13; refine HS1.out.mono ?_; rintro e9 w7 ⟨rfl, hb⟩; have HB7 := Lib.hid hb; clear hb)
            go_upto_region 19 with (go_at_call 13; refine (HS2.out _ HB7.out).mono ?_; rintro e9 w8 ⟨rfl, hb⟩; have HB8 := Lib.hid (bthen HB7.out hb); clear hb)
            go_upto_region 20 with (go_at_call 14; refine (HSO.out _ HB8.out).mono ?_; rintro e9 w9 ⟨rfl, hb⟩; have HB9 := Lib.hid (bthen HB8.out hb); clear hb)
            go_upto_region 21 with (go_at_call 11; refine (HST.out _ HB9.out).mono ?_; rintro e9 w10 ⟨rfl, hb⟩; have HB10 := Lib.hid (bthen HB9.out hb); clear hb)
            rw [HSK.out]
            go_wp2_with (go_at_call 8; refine (HAL.out _).mono ?_; rintro e9 w11 ⟨rfl, hb⟩; have HB11 := Lib.hid hb; clear hb)
            go_ret
            exact ⟨by simp, HBE.out.trans ((bthen HB10.out HB11.out).mono HBE.out.size)⟩
          · clear hc he0
            go_upto_region 18 with (go_at_call 13; refine HS1.out.mono ?_; rintro e9 w7 ⟨rfl, hb⟩; have HB7 := Lib.hid hb; clear hb)
            go_upto_region 19 with (go_at_call 13; refine (HS2.out _ HB7.out).mono ?_; rintro e9 w8 ⟨rfl, hb⟩; have HB8 := Lib.hid (bthen HB7.out hb); clear hb)
            go_upto_region 20 with (go_at_call 14; refine (HSO.out _ HB8.out).mono ?_; rintro e9 w9 ⟨rfl, hb⟩; have HB9 := Lib.hid (bthen HB8.out hb); clear hb)
            go_upto_region 21 with (go_at_call 11; refine (HST.out _ HB9.out).mono ?_; rintro e9 w10 ⟨rfl, hb⟩; have HB10 := Lib.hid (bthen HB9.out hb); clear hb)
            rw [HSK.out]
            go_wp2_with (go_at_call 8; refine (HAL.out _).mono ?_; rintro e9 w11 ⟨rfl, hb⟩; have HB11 := Lib.hid hb; clear hb)
            go_ret
            exact ⟨by simp, HBE.out.trans ((bthen HB10.out HB11.out).mono HBE.out.size)⟩
end Go.Proofs.Ytbccjkjibffbkaa
