/- The document's bits and Pack. -/
import Derived.Test.YtedldajlioeioaaNK
import Derived.Laws.AppendOwnNone
namespace Go.Proofs.Ytedldajlioeioaa
open Go.RowKit
set_option linter.unusedSimpArgs false
set_option linter.unusedVariables false
def bitsI (x k : Nat) : List Int := (List.range k).map (fun i => ((x / 2 ^ i % 2 : Nat) : Int))
theorem bitsI_succ (x k : Nat) : bitsI x (k + 1) = bitsI x k ++ [((x / 2 ^ k % 2 : Nat) : Int)] := by simp [bitsI, List.range_succ]
theorem bitsI_length (x k : Nat) : (bitsI x k).length = k := by simp [bitsI]
/-- A new list of bytes, nil if it is empty. -/
def NewB (w : World) (xs : List Int) (e : Ending) (w' : World) : Prop :=
  ∃ v, e = .returned v ∧ w'.ownsRow w.heap.size 5 1 v xs.length (xs.map (Value.int .u8)) ∧ (xs.length = 0 → v = .slice none 0 0) ∧ Below w.heap.size w w'
set_option maxHeartbeats 1000000 in
theorem rbits_any (x W : Nat) (w : World) (hx : x < 18446744073709551616) (hW : W ≤ 64) :
    Calls Try.prog 39 #[.int .u64 (x : Nat), .int .i64 (W : Nat)] w (NewB w (bitsI x W)) := by
  obtain ⟨i0, hi0, hz0, hz1, hz2⟩ := info_parts Try.info5
  go_enter Try.func39, Try.ntmps39
  go_wp2_with fail
  go_loopw [0, 5, 6] (fun y v i wr => ∃ k X : Nat, k ≤ W ∧ i = .int .i64 k ∧ y = .int .u64 X ∧ (X : Int) < 18446744073709551616 ∧ Hid (X = x / 2 ^ k) ∧ wr.ownsRow w.heap.size 5 1 v k ((bitsI x k).map (Value.int .u8)) ∧ Below w.heap.size w wr ∧ Hid (k = 0 → v = .slice none 0 0))
    (fun _ _ i _ => W - (intOf i).toNat)
  case atStart => exact ⟨0, x, Nat.zero_le _, rfl, rfl, by omega, Lib.hid (by simp), World.ownsRow_nil _ _ _ _, Below.refl _ _, Lib.hid (fun _ => rfl)⟩
  case round =>
    obtain ⟨k, X, hk, rfl, rfl, hX, HX, hown, hB, HN⟩ := hrel
    by_cases hlt : k < W
    · have HX2 := Lib.hid (show X / 2 = x / 2 ^ (k + 1) by rw [HX.out, Nat.div_div_eq_div_mul, Nat.pow_succ])
      have HS := Lib.hid (show (bitsI x (k + 1)).map (Value.int .u8) = (bitsI x k).map (Value.int .u8) ++ [.int .u8 ((X : Int) % 2)] by
        rw [bitsI_succ, ← HX.out, List.map_append]; simp)
      have hbs := hB.size
      clear HX HN
      go_wp2_with (at_builtin; refine wpList_append_own _ rfl _ _ 24 rfl w.heap.size 5 i0 (.int .u8 0) 1 1 Try.underlying24 hi0 hz0 hz1 hz2 rfl (by decide) _ _ _ rfl (hown.alloc _) ⟨wr.heap.size, 0, none⟩ 1 1 [.int .u8 ((X : Int) % 2)] rfl rfl ?c1 ?c2 ?c3 ?c4 ?c5 ?_)
      case c1 => intro j u hj; match j, hj with | 0, hj => simp at hj; subst hj; simp [Addr.add]
      case c2 => intro u hu; simp at hu; subst hu; rfl
      case c3 => unfold maxLen; omega
      case c4 => omega
      case c5 => simp; omega
      intro v' w2 hown' hgrow _
      have hB' : Below w.heap.size w w2 := (bpush hB _).grown hgrow (by simp; omega) (fun k hk => (hown.lt k hk).1)
      have hown2 : w2.ownsRow w.heap.size 5 1 v' (k + 1) ((bitsI x (k + 1)).map (Value.int .u8)) := by rw [HS.out]; exact hown'
      clear hown' hgrow hB hown
      go_wp2
      go_roundw
      case rel => exact ⟨k + 1, X / 2, by omega, by go_num, by go_num, by omega, HX2, hown2, hB', Lib.hid (fun h => by omega)⟩
      case measure => first | (simp [intOf]; done) | (simp [intOf]; omega)
    · obtain rfl : k = W := by omega
      go_wp2
      go_ret
      exact ⟨_, rfl, by rw [bitsI_length]; exact hown, fun h => HN.out (by rw [bitsI_length] at h; exact h), hB⟩
/-- The bits of some numbers. -/
def allB (L : List Nat) (W t : Nat) : List Int := (List.range t).map (fun k => (bitL L W k : Int))
theorem allB_length (L : List Nat) (W t : Nat) : (allB L W t).length = t := by simp [allB]
theorem allB_next {L : List Nat} {W k x : Nat} (hx : L.getD k 0 = x) : allB L W (k * W + W) = allB L W (k * W) ++ bitsI x W := by
  unfold allB bitsI
  rw [List.range_add, List.map_append, List.map_map]
  congr 1
  apply List.map_congr_left
  intro i hi
  rw [List.mem_range] at hi
  simp only [Function.comp]
  rw [bitL_at hi, hx]
/-- What the document's packing answers. -/
def RPacked (w : World) (xs : List Int) (e : Ending) (w' : World) : Prop :=
  ∃ A c, e = .returned (.tuple #[.slice A xs.length c, .int .i64 0]) ∧ Row w' A (xs.map (Value.int .u8)) ∧ (A = none → c = 0) ∧ (∀ b off, A = some ⟨b, off, none⟩ → w.heap.size ≤ b) ∧ Below w.heap.size w w'
theorem own_row2 {w : World} {base n : Nat} {e : TypeId} {v : Value} {xs : List Value} (h : w.ownsRow base e 1 v n xs) (hn : n = 0 → v = .slice none 0 0) : ∃ A c, v = .slice A n c ∧ Row w A xs ∧ (A = none → c = 0) ∧ (∀ b off, A = some ⟨b, off, none⟩ → base ≤ b) := by
  rcases Nat.eq_zero_or_pos n with h0 | h0
  · have := hn h0
    subst h0
    exact ⟨none, 0, this, .inl (List.eq_nil_of_length_eq_zero (by simpa using h.1)), (fun _ => rfl), (fun _ _ h => by cases h)⟩
  · obtain ⟨g, cap, hv, _, hr⟩ := Row.of_own h h0
    subst hv
    exact ⟨_, _, rfl, hr, (fun h => by cases h), (fun b off e => by cases e; exact (h.lt g rfl).1)⟩
theorem own_row {w : World} {base n : Nat} {e : TypeId} {v : Value} {xs : List Value} (h : w.ownsRow base e 1 v n xs) (hn : n = 0 → v = .slice none 0 0) : ∃ A c, v = .slice A n c ∧ Row w A xs := by
  rcases Nat.eq_zero_or_pos n with h0 | h0
  · have := hn h0
    subst h0
    exact ⟨none, 0, this, .inl (List.eq_nil_of_length_eq_zero (by simpa using h.1))⟩
  · obtain ⟨g, cap, hv, _, hr⟩ := Row.of_own h h0
    exact ⟨_, _, hv, hr⟩
theorem Row.adds' {w : World} {b : Nat} {xs : List Value} (h : Row w (some ⟨b, 0, none⟩) xs) : ∀ j u, xs[j]? = some u → w.cell? ((⟨b, 0, none⟩ : Addr).add j) = some u := by
  intro j u hu
  rcases h with rfl | ⟨b', off, he, hc⟩
  · simp at hu
  · cases he
    have := hc j u hu
    unfold Addr.add
    split
    · rename_i h0; subst h0; exact this
    · exact this
theorem wrap_add8 {a b : Nat} (h : a + b < 256) : IntKind.u8.wrap ((a : Int) + (b : Int)) = ((a + b : Nat) : Int) := by rw [IntKind.wrap_u8']; omega
set_option maxRecDepth 100000 in
set_option maxHeartbeats 4000000 in
theorem rpack_good (A : Option Addr) (n c : Nat) (L : List Nat) (W : Nat) (w : World) (hA : Row w A (u64s L)) (hn : n ≤ 65536) (hz : n = L.length) (hs : small L) (hW : W ≤ 64) (hw : widthN L ≤ W) :
    Calls Try.prog 23 #[.slice A n c, .int .i64 (W : Nat)] w (RPacked w (packL L W)) := by
  obtain ⟨S, hS⟩ : ∃ S, S = sizeN n W := ⟨_, rfl⟩
  have hSi : ((n : Int) * (W : Int) + 7) / 8 = (S : Int) := by rw [hS]; unfold sizeN; rw [Int.natCast_ediv, Int.natCast_add, Int.natCast_mul]; rfl
  have hnW : n * W ≤ 65536 * 64 := Nat.mul_le_mul hn hW
  have HZ := Lib.hid hz
  have HSM := Lib.hid hs
  have HS := Lib.hid hS
  have HSI := Lib.hid hSi
  have HA := Lib.hid hA
  have HW := Lib.hid hw
  have HNW := Lib.hid hnW
  obtain ⟨i0, hi0, hz0, hz1, hz2⟩ := info_parts Try.info5
  clear hz hs hS hSi hnW hw hA
  have hn0 : (n : Int) ≤ 65536 := by omega
  go_enter Try.func23, Try.ntmps23
  go_wp2_with fail
  refine (rsize_good _ _ _ (by omega) hn0 (by omega) (by omega)).mono ?_
  rintro e w1 ⟨rfl, rfl⟩
  rw [HSI.out]
  go_wp2_with fail
  refine (rwidth_any A n c L _ HA.out (by omega) HZ.out HSM.out).mono ?_
  rintro e w1 ⟨rfl, rfl⟩
  obtain ⟨V, hV⟩ : ∃ V, V = widthN L := ⟨_, rfl⟩
  have hVW : V ≤ W := by have := HW.out; omega
  have hVd : decide (W < V) = false := by simp; omega
  rw [← hV]
  clear hV HSI
  go_wp2_with fail
  clear hVW
  go_loopw [8, 9] (fun v i wr => ∃ k : Nat, k ≤ n ∧ i = .int .i64 k ∧ wr.ownsRow w.heap.size 5 1 v (k * W) ((allB L W (k * W)).map (Value.int .u8)) ∧ Below w.heap.size w wr ∧ Hid (k * W = 0 → v = .slice none 0 0))
    (fun _ i _ => n - (intOf i).toNat)
  case atStart => exact ⟨0, Nat.zero_le _, rfl, by rw [Nat.zero_mul]; exact World.ownsRow_nil _ _ _ _, Below.refl _ _, Lib.hid (fun _ => rfl)⟩
  case round =>
    obtain ⟨k, hk, rfl, hown, hB, HN⟩ := hrel
    by_cases hlt : k < n
    · have hkz : k < L.length := by have := HZ.out; omega
      obtain ⟨b, off, hA', hcell⟩ := u64s_cell (HA.out.keep (Nat.le_refl _) hB) hkz
      obtain ⟨x, hx⟩ : ∃ x, x = L[k] := ⟨_, rfl⟩
      have hxs : x < 18446744073709551616 := HSM.out x (by rw [hx]; exact List.getElem_mem _)
      have hxg : L.getD k 0 = x := by rw [hx, List.getD_eq_getElem?_getD, List.getElem?_eq_getElem hkz]; rfl
      rw [← hx] at hcell
      have HX := Lib.hid (allB_next (W := W) hxg)
      have HNX := Lib.hid (show k * W + W ≤ n * W by rw [← Nat.succ_mul]; exact Nat.mul_le_mul_right _ hlt)
      obtain ⟨t, ht⟩ : ∃ t, t = k * W := ⟨_, rfl⟩
      have HT := Lib.hid ht
      rw [← ht] at hown
      clear hx hkz hxg ht
      subst hA'
      have HOWN := Lib.hid hown
      have HB := Lib.hid hB
      clear hown hB
      go_wp2_with fail
      refine (rbits_any x W _ hxs hW).mono ?_
      rintro e w2 ⟨vb, rfl, hob, hnb, hBb⟩
      rw [bitsI_length] at hob hnb
      have hown2 : w2.ownsRow w.heap.size 5 1 _ t _ := HOWN.out.kept (row := none) ⟨hBb.os, hBb.tape, hBb.output, hBb.size, fun i hi _ => hBb.block i hi⟩ (by
        cases h : Value.ownBlock _ with
        | none => exact .inl rfl
        | some q => exact .inr (by simp))
      have hB2 := bthen HB.out hBb
      have HN2 := Lib.hid hnb
      clear hnb
      rcases Nat.eq_zero_or_pos W with hW0 | hW0
      · have hv := HN2.out hW0
        subst hv
        have HW0 := Lib.hid hW0
        clear hW0 hob
        go_wp2_with (at_builtin; refine wpList_append_own_none rfl _ _ 24 rfl w.heap.size 5 i0 1 Try.underlying24 hi0 _ _ _ rfl hown2 rfl ?_)
        go_wp2_with fail
        go_roundw
        case rel => exact ⟨k + 1, by omega, by go_num, by rw [show (k + 1) * W = t by rw [HT.out, HW0.out]; simp]; exact hown2, hB2, Lib.hid (fun _ => HN.out (by rw [HW0.out]; simp))⟩
        case measure => first | (simp [intOf]; done) | (simp [intOf]; omega)
      · obtain ⟨gs, cs, rfl, hcs, hrow⟩ := Row.of_own hob hW0
        have HR := Lib.hid hrow.adds'
        have HTW := Lib.hid (show t + W ≤ 65536 * 64 by have := HNX.out; have := HNW.out; have := HT.out; omega)
        clear hrow hob
        go_wp2_with (at_builtin; refine wpList_append_own _ rfl _ _ 24 rfl w.heap.size 5 i0 (.int .u8 0) 1 1 Try.underlying24 hi0 hz0 hz1 hz2 rfl (by decide) _ _ _ rfl hown2 ⟨gs, 0, none⟩ W cs ((bitsI x W).map (Value.int .u8)) rfl ?c1 ?c2 ?c3 ?c4 ?c5 ?c6 ?_)
        case c1 => rw [List.length_map, bitsI_length, Nat.mul_one]
        case c2 => exact HR.out
        case c3 => intro u hu; simp at hu; obtain ⟨_, _, rfl⟩ := hu; rfl
        case c4 => unfold maxLen; have := HTW.out; omega
        case c5 => have := HTW.out; omega
        case c6 => exact hB2.size
        intro v' w4 hown' hgrow _
        have hB' : Below w.heap.size w w4 := hB2.grown hgrow hB2.size (fun k hk => (hown2.lt k hk).1)
        have HO := Lib.hid (show w4.ownsRow w.heap.size 5 1 v' ((k + 1) * W) ((allB L W ((k + 1) * W)).map (Value.int .u8)) by
          rw [Nat.succ_mul, HX.out, List.map_append, ← HT.out]; exact hown')
        clear hown' hgrow hown2 hB2
        go_wp2
        go_roundw
        case rel => exact ⟨k + 1, by omega, by go_num, HO.out, hB', Lib.hid (fun h => by rw [Nat.succ_mul] at h; omega)⟩
        case measure => first | (simp [intOf]; done) | (simp [intOf]; omega)
    · obtain rfl : n = k := by omega
      obtain ⟨T, hT⟩ : ∃ T, T = n * W := ⟨_, rfl⟩
      rw [← hT] at hown HN
      have hT1 : T ≤ 65536 * 64 := by rw [hT]; exact HNW.out
      obtain ⟨AA, ca, rfl, hrowA⟩ := own_row hown HN.out
      have HTT := Lib.hid hT
      have HRA := Lib.hid hrowA
      have HBO := Lib.hid hB
      clear hown HN hrowA hT hB
      go_wp2_with fail
      obtain ⟨wo, rfl⟩ : ∃ wo : World, wo = wr := ⟨_, rfl⟩
      go_loopw [10, 11] (fun v i wq => ∃ j : Nat, j ≤ T ∧ i = .int .i64 j ∧ wq.ownsRow wo.heap.size 5 1 v ((j + 7) / 8) ((packS (bitL L W) j ((j + 7) / 8)).map (Value.int .u8)) ∧ Below wo.heap.size wo wq ∧ Hid (j = 0 → v = .slice none 0 0))
        (fun _ i _ => T - (intOf i).toNat)
      case atStart => exact ⟨0, Nat.zero_le _, rfl, World.ownsRow_nil _ _ _ _, Below.refl _ _, Lib.hid (fun _ => rfl)⟩
      case round =>
        obtain ⟨i, hi, rfl, hoi, hBi, HNi⟩ := hrel
        by_cases hlt : i < T
        · obtain ⟨y, hy⟩ : ∃ y, y = bitL L W i := ⟨_, rfl⟩
          have hy1 : y ≤ 1 := by rw [hy]; exact bitL_le _ _ _
          obtain ⟨b, off, hAA, hcell0⟩ := HRA.out.cell (i := i) (by rw [allB_length]; exact hlt)
          subst hAA
          have hca0 : ∀ ww, Below wo.heap.size wo ww → ww.cell? ⟨b, off + i, none⟩ = some (.int .u8 (y : Nat)) := fun ww hb => by
            rw [cell_on hb hcell0]; simp [allB, hy]
          obtain ⟨q, hq⟩ : ∃ q, q = i / 8 := ⟨_, rfl⟩
          obtain ⟨r, hr⟩ : ∃ r, r = i % 8 := ⟨_, rfl⟩
          have hr8 : r < 8 := by omega
          have hq9 : q ≤ 600000 := by omega
          have hbs := byteF_small (bitL_le L W) i
          obtain ⟨yb, hyb⟩ : ∃ yb, yb = byteF (bitL L W) i q := ⟨_, rfl⟩
          obtain ⟨s, hs⟩ : ∃ s, s = y * 2 ^ r := ⟨_, rfl⟩
          have h2r : 2 ^ r ≤ 2 ^ 7 := Nat.pow_le_pow_right (by omega) (by omega)
          have hs2 : s ≤ 1 * 2 ^ r := by rw [hs]; exact Nat.mul_le_mul_right _ hy1
          rw [← hq, ← hyb, ← hr] at hbs
          obtain ⟨z, hz⟩ : ∃ z, z = yb + s := ⟨_, rfl⟩
          have hwz : IntKind.u8.wrap ((yb : Int) + (s : Int)) = (z : Int) := by rw [wrap_add8 (by omega), hz]
          have hws : IntKind.u8.wrap ((y : Int) * 2 ^ r) = (s : Int) := by
            have : (y : Int) * 2 ^ r = ((y * 2 ^ r : Nat) : Int) := by rw [Int.natCast_mul, Int.natCast_pow]; rfl
            rw [this, ← hs, IntKind.wrap_u8']; omega
          have hwq : IntKind.i64.wrap (q : Int) = (q : Int) := IntWalk.i64_in _ (by omega)
          have hwr : IntKind.u64.wrap (r : Int) = (r : Int) := by simp [IntKind.wrap, IntKind.bits, IntKind.signed]; omega
          have htq : (i : Int).tdiv 8 = (q : Int) := by rw [Int.tdiv_eq_ediv_of_nonneg (by omega)]; omega
          have htr : (i : Int).tmod 8 = (r : Int) := by rw [Int.tmod_eq_emod_of_nonneg (by omega)]; omega
          have hemod : (i : Int) % 8 = (r : Int) := by omega
          have HQ := Lib.hid hq
          have HR := Lib.hid hr
          have HYY := Lib.hid hy
          have HYB := Lib.hid hyb
          have HSS := Lib.hid (show s = bitL L W i * 2 ^ r by rw [hs, hy])
          have HZZ := Lib.hid hz
          clear hq hr hy hyb hs hz h2r hs2 hbs hcell0
          by_cases hr0 : r = 0
          · have hrb : ((r : Int) == 0) = true := by rw [hr0]; rfl
            have HR0 := Lib.hid hr0
            have h78 : (i + 7) / 8 = q := by have := HQ.out; have := HR.out; omega
            rw [h78] at hoi
            have HG := Lib.hid (show (packS (bitL L W) i (q + 1)).map (Value.int .u8) = (packS (bitL L W) i q).map (Value.int .u8) ++ [.int .u8 0] by
              have := packS_grow (f := bitL L W) (t := i) (by rw [← HR.out]; exact HR0.out)
              rw [HQ.out, ← this, List.map_append]; rfl)
            have hbsz := hBi.size
            clear h78 HNi hr0
            go_wp2_with (at_builtin; refine wpList_append_own _ rfl _ _ 24 rfl wo.heap.size 5 i0 (.int .u8 0) 1 1 Try.underlying24 hi0 hz0 hz1 hz2 rfl (by decide) _ _ _ rfl (hoi.alloc _) ⟨wr.heap.size, 0, none⟩ 1 1 [.int .u8 0] rfl rfl ?d1 ?d2 ?d3 ?d4 ?d5 ?_)
            case d1 => intro j u hj; match j, hj with | 0, hj => simp at hj; subst hj; simp [Addr.add]
            case d2 => intro u hu; simp at hu; subst hu; rfl
            case d3 => unfold maxLen; omega
            case d4 => omega
            case d5 => simp; omega
            intro v' wv hown' hgrow _
            have hBV : Below wo.heap.size wo wv := (bpush hBi _).grown hgrow (by simp; omega) (fun k hk => (hoi.lt k hk).1)
            rw [← HG.out] at hown'
            obtain ⟨gv, cv, rfl, hcv, _⟩ := Row.of_own hown' (by omega)
            have hov := hown'
            have hqc : (q : Int) < (q : Int) + 1 := by omega
            clear hown' hgrow hoi hBi
            have hst := World.ownsRow.stored hov q (.int .u8 (z : Nat))
            obtain ⟨hst1, hst2⟩ := hst
            have hlist : ((packS (bitL L W) i (q + 1)).map (Value.int .u8)).set q (.int .u8 (z : Nat)) = (packS (bitL L W) (i + 1) (q + 1)).map (Value.int .u8) := by
              rw [← List.map_set]
              rw [packS_step (by have := HQ.out; omega), ← HQ.out, ← HR.out, ← HYB.out, ← HSS.out, ← HZZ.out]
            rw [hlist] at hst1
            have HST1 := Lib.hid hst1
            have HBV2 := Lib.hid (hBV.grown hst2 hBV.size (fun k hk => by cases hk; exact (hov.lt _ rfl).1))
            have hcb := hov.cellAt q (by omega)
            rw [List.getElem?_map, packS_get (by omega)] at hcb
            replace hcb : wv.cell? ⟨gv, q, none⟩ = some (.int .u8 (yb : Nat)) := by rw [hcb, HYB.out]; rfl
            have hfb := hov.frozenAt q
            have hca := hca0 wv hBV
            clear hlist hst1 hst2
            go_wp2_with fail
            go_still_tail 18, (by kernel_rfl)
            change wpList _ _ _ _ _ wv.drew
            generalize hwd : wv.drew = w5
            have hcb5 : w5.cell? ⟨gv, q, none⟩ = some (.int .u8 (yb : Nat)) := by rw [← hwd]; exact hcb
            have hfb5 : w5.frozen? ⟨gv, q, none⟩ = false := by rw [← hwd]; exact hfb
            go_wp2_with fail
            go_roundw
            case rel =>
              refine ⟨i + 1, by omega, by go_num, ?_, ?_, Lib.hid (fun h => by omega)⟩
              · rw [← hwd, show (i + 1 + 7) / 8 = q + 1 by have := HQ.out; omega]; exact HST1.out
              · rw [← hwd]; exact HBV2.out.drew
            case measure => first | (simp [intOf]; done) | (simp [intOf]; omega)

          · have hrb : ((r : Int) == 0) = false := by simp; omega
            have h78 : (i + 7) / 8 = q + 1 := by have := HQ.out; have := HR.out; omega
            rw [h78] at hoi
            obtain ⟨gv, cv, rfl, hcv, _⟩ := Row.of_own hoi (by omega)
            have hov := hoi
            have hBV := hBi
            have hqc : (q : Int) < (q : Int) + 1 := by omega
            clear h78 HNi hr0 hoi hBi
            have hst := World.ownsRow.stored hov q (.int .u8 (z : Nat))
            obtain ⟨hst1, hst2⟩ := hst
            have hlist : ((packS (bitL L W) i (q + 1)).map (Value.int .u8)).set q (.int .u8 (z : Nat)) = (packS (bitL L W) (i + 1) (q + 1)).map (Value.int .u8) := by
              rw [← List.map_set]
              rw [packS_step (by have := HQ.out; omega), ← HQ.out, ← HR.out, ← HYB.out, ← HSS.out, ← HZZ.out]
            rw [hlist] at hst1
            have HST1 := Lib.hid hst1
            have HBV2 := Lib.hid (hBV.grown hst2 hBV.size (fun k hk => by cases hk; exact (hov.lt _ rfl).1))
            have hcb := hov.cellAt q (by omega)
            rw [List.getElem?_map, packS_get (by omega)] at hcb
            replace hcb : wr.cell? ⟨gv, q, none⟩ = some (.int .u8 (yb : Nat)) := by rw [hcb, HYB.out]; rfl
            have hfb := hov.frozenAt q
            have hca := hca0 wr hBV
            clear hlist hst1 hst2
            go_wp2_with fail
            go_still_tail 18, (by kernel_rfl)
            change wpList _ _ _ _ _ wr.drew
            generalize hwd : wr.drew = w5
            have hcb5 : w5.cell? ⟨gv, q, none⟩ = some (.int .u8 (yb : Nat)) := by rw [← hwd]; exact hcb
            have hfb5 : w5.frozen? ⟨gv, q, none⟩ = false := by rw [← hwd]; exact hfb
            go_wp2_with fail
            go_roundw
            case rel =>
              refine ⟨i + 1, by omega, by go_num, ?_, ?_, Lib.hid (fun h => by omega)⟩
              · rw [← hwd, show (i + 1 + 7) / 8 = q + 1 by have := HQ.out; omega]; exact HST1.out
              · rw [← hwd]; exact HBV2.out.drew
            case measure => first | (simp [intOf]; done) | (simp [intOf]; omega)

        · have hij : i = T := by omega
          obtain ⟨AO, co, rfl, hrowO, hnO, hbO⟩ := own_row2 hoi (fun h => HNi.out (by omega))
          go_wp2
          go_ret2
          have hl : (packL L W).length = (i + 7) / 8 := by rw [packL_length, ← HZ.out, hij, HTT.out]; rfl
          refine ⟨AO, co, by rw [hl]; rfl, ?_, hnO, (fun b off e => Nat.le_trans HBO.out.size (hbO b off e)), bthen HBO.out hBi⟩
          unfold packL
          rw [← HZ.out, ← HTT.out, ← hij, show sizeN n W = (i + 7) / 8 by rw [hij, HTT.out]; rfl]
          exact hrowO
end Go.Proofs.Ytedldajlioeioaa
