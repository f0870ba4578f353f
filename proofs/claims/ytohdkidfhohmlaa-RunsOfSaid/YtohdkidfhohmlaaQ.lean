/- A list of the call's own, sorted; the set of a list's numbers. -/
import Derived.Test.YtohdkidfhohmlaaP
import Derived.Test.YtohdkidfhohmlaaS
import Derived.Sort.OwnSortedInts
namespace Go.Proofs.Ytohdkidfhohmlaa
open Go.RowKit
set_option linter.unusedSimpArgs false
set_option linter.unusedVariables false
def srt (xs : List Int) : List Int := xs.mergeSort fun x y => decide (x ≤ y)
theorem srt_length (xs : List Int) : (srt xs).length = xs.length := List.length_mergeSort _
theorem srt_mem (xs : List Int) (x : Int) : x ∈ srt xs ↔ x ∈ xs := List.mem_mergeSort
theorem srt_le (xs : List Int) {i j : Nat} (h : i < j) (hj : j < (srt xs).length) : (srt xs)[i] ≤ (srt xs)[j] := by
  have := List.pairwise_mergeSort (le := fun x y : Int => decide (x ≤ y)) (fun a b c h1 h2 => by simp at *; omega) (fun a b => by simp; omega) xs
  have := List.pairwise_iff_getElem.1 this i j (Nat.lt_trans h hj) hj h
  exact of_decide_eq_true this
theorem sort_own (B : Nat) (v : Value) (n : Nat) (xs : List Int) (w : World) (h : w.ownsRow B 3 1 v n (xs.map (Value.int .i64))) (hn : n ≤ 4000000) :
    Calls Try.prog 36 #[v] w fun e w' => e = .returned (.tuple #[]) ∧ w'.ownsRow B 3 1 v n ((srt xs).map (Value.int .i64)) ∧ Below B w w' := by
  have hl : n = xs.length := by have := h.1; simpa using this.symm
  subst hl
  rcases h.2 with ⟨rfl, h0⟩ | ⟨g, cap, cur, rfl, hb, hc, h1, h2, h3, h4⟩
  · have hx : xs = [] := List.length_eq_zero_iff.1 h0
    subst hx
    refine (Try.slices_Sort_int_none none 0 w).mono ?_
    rintro e w' ⟨rfl, rfl⟩
    exact ⟨rfl, by simpa [srt] using h, Below.refl _ _⟩
  · have hl2 := srt_length xs
    refine (Try.slices_Sort_int g 0 cap xs w (holds_of_blockI hc (by simpa using h4)) (Blk.lt hc) (by omega)).mono ?_
    rintro e w' ⟨rfl, n, os, rfl⟩
    refine ⟨rfl, ?_, (Below.refl B w).grown (grownBy_sortedI _) (by have := Blk.lt hc; omega) (fun k hk => by cases hk; exact hb)⟩
    exact ownsRow_sortedI hl2 hb hc h1 h2 h3
def PutAny (B : Nat) (w : World) (M : List (Int × Int)) (x y : Int) (e : Ending) (w' : World) : Prop :=
  ∃ N v, rightB (-1) N = true ∧ lastE (-1) N = y ∧ (∀ z, hasB z N = (hasB z M || decide (x ≤ z ∧ z < y))) ∧ N ≠ [] ∧ e = .returned v ∧ OwnP B w' v N ∧ Below B w w'
theorem put_any (B : Nat) (v : Value) (M : List (Int × Int)) (x y : Int) (w : World) (hB : B ≤ w.heap.size) (hown : OwnP B w v M) (hnil : M = [] → v = .slice none 0 0)
    (hr : rightB (-1) M = true) (hx : lastE (-1) M ≤ x) (h0 : 0 ≤ x) (hxy : x < y) (hy : y ≤ 65536) :
    Calls Try.prog 37 #[v, .int .i64 x, .int .i64 y] w (PutAny B w M x y) := by
  have hlen := right_length hr
  obtain ⟨N, n1, n2, n3, n4, hc⟩ := putted hr hx h0 hxy hy
  have fin : ∀ e w', PutPost B w N e w' → PutAny B w M x y e w' := fun e w' ⟨v, h1, h2, h3⟩ => ⟨N, v, n1, n2, n3, n4, h1, h2, h3⟩
  rcases hc with ⟨rfl, rfl⟩ | ⟨M', p, rfl, rfl⟩ | ⟨M', p, z, rfl, hz, rfl⟩
  · rw [hnil rfl]
    exact (put_new_nil B x y w hB).mono fin
  · exact (put_join B v M' p x y w hB hown (by simp at hlen; omega)).mono fin
  · exact (put_new B v M' p z x y w hB hown (by simp at hlen; omega) hz).mono fin
def ClonePost (w : World) (n : Nat) (zs : List Int) (e : Ending) (w' : World) : Prop := ∃ v, e = .returned v ∧ w'.ownsRow w.heap.size 3 1 v n (zs.map (Value.int .i64)) ∧ Below w.heap.size w w'
theorem clone_any (A : Option Addr) (n c : Nat) (zs : List Int) (w : World) (hA : Row w A (zs.map (Value.int .i64))) (hz : n = zs.length) (hn : n ≤ 4000000) :
    Calls Try.prog 35 #[.slice A n c] w (ClonePost w n zs) := by
  subst hz
  rcases hA with h | ⟨b, off, rfl, hc⟩
  · have : zs = [] := by simpa using h
    subst this
    cases A with
    | none =>
      refine (Try.slices_Clone_int_nil _ _ w).mono ?_
      rintro e w' ⟨rfl, rfl⟩
      exact ⟨_, rfl, World.ownsRow_nil _ _ _ _, Below.refl _ _⟩
    | some a =>
      refine (Try.slices_Clone_int_zero a _ w).mono ?_
      rintro e w' ⟨v', rfl, h1, _, h2⟩
      exact ⟨_, rfl, h1, h2⟩
  · refine (Try.slices_Clone_int b off zs.length c zs w (Nat.le_refl _) (by omega) (fun j hj => ?_)).mono ?_
    · exact hc j _ (by rw [List.getElem?_map, List.getElem?_eq_getElem hj]; simp [List.getD, List.getElem?_eq_getElem hj])
    · rintro e w' ⟨v', rfl, h1, _, h2⟩
      rw [List.take_length] at h1
      exact ⟨_, rfl, h1, h2⟩
/-- The set of the first k numbers of a sorted list. -/
def OfSt (z : List Int) (k : Nat) (L : List (Int × Int)) : Prop :=
  rightB (-1) L = true ∧ (∀ x, hasB x L = decide (x ∈ z.take k)) ∧ (L = [] ↔ k = 0) ∧ (0 < k → lastE (-1) L = z.getD (k - 1) 0 + 1) ∧ ∀ x ∈ z.take k, 0 ≤ x ∧ x < 65536
theorem OfSt.zero (z : List Int) : OfSt z 0 [] := ⟨rfl, fun x => by simp [hasB], by simp, fun h => by omega, by simp⟩
theorem OfSt.again {z : List Int} {k : Nat} {L : List (Int × Int)} (h : OfSt z k L) (hk : k < z.length) (h0 : 0 < k) (he : z[k] = z.getD (k - 1) 0) : OfSt z (k + 1) L := by
  obtain ⟨h1, h2, h3, h4, h5⟩ := h
  have hm : z[k] ∈ z.take k := by
    rw [he, List.getD_eq_getElem?_getD, List.getElem?_eq_getElem (by omega)]
    exact List.mem_take_iff_getElem.2 ⟨k - 1, by omega, rfl⟩
  refine ⟨h1, fun x => ?_, by rw [h3]; omega, fun _ => ?_, fun x hx => ?_⟩
  · rw [h2, take_snoc z k hk, Bool.eq_iff_iff]
    simp only [decide_eq_true_eq, List.mem_append, List.mem_singleton]
    exact ⟨.inl, fun h => h.elim id (fun e => e ▸ hm)⟩
  · rw [h4 h0, ← he, Nat.add_sub_cancel, List.getD_eq_getElem?_getD, List.getElem?_eq_getElem hk]; rfl
  · rw [take_snoc z k hk, List.mem_append] at hx
    rcases hx with hx | hx
    · exact h5 x hx
    · simp at hx; subst hx; exact h5 _ hm
theorem OfSt.next {z : List Int} {k : Nat} {L N : List (Int × Int)} {x : Int} (h : OfSt z k L) (hk : k < z.length) (hx : x = z[k]) (hx0 : 0 ≤ x) (hx1 : x < 65536)
    (n1 : rightB (-1) N = true) (n2 : lastE (-1) N = x + 1) (n3 : ∀ y, hasB y N = (hasB y L || decide (x ≤ y ∧ y < x + 1))) (n4 : N ≠ []) : OfSt z (k + 1) N := by
  obtain ⟨h1, h2, h3, h4, h5⟩ := h
  refine ⟨n1, fun y => ?_, ⟨fun h => absurd h n4, fun h => by omega⟩, fun _ => ?_, fun y hy => ?_⟩
  · rw [n3, h2, take_snoc z k hk, ← hx, Bool.eq_iff_iff]
    simp only [Bool.or_eq_true, decide_eq_true_eq, List.mem_append, List.mem_singleton]
    constructor
    · rintro (h | h)
      · exact .inl h
      · exact .inr (by omega)
    · rintro (h | h)
      · exact .inl h
      · exact .inr (by omega)
  · rw [n2, Nat.add_sub_cancel, List.getD_eq_getElem?_getD, List.getElem?_eq_getElem hk, hx]; rfl
  · rw [take_snoc z k hk, List.mem_append] at hy
    rcases hy with hy | hy
    · exact h5 y hy
    · simp at hy; subst hy; omega
def OfPost (w : World) (zs : List Int) (e : Ending) (w' : World) : Prop :=
  Below w.heap.size w w' ∧ (((∀ x ∈ zs, 0 ≤ x ∧ x < 65536) ∧ ∃ L A c, e = .returned (.tuple #[.slice A L.length c, .int .i64 0]) ∧ Row w' A (cellsP L) ∧ L.length ≤ c ∧ rightB (-1) L = true ∧ ∀ x, hasB x L = decide (x ∈ zs)) ∨
    ((¬ ∀ x ∈ zs, 0 ≤ x ∧ x < 65536) ∧ e = .returned (.tuple #[.slice none 0 0, .int .i64 41])))
theorem own_slice {B : Nat} {w : World} {v : Value} {L : List (Int × Int)} (h : OwnP B w v L) : ∃ A c, v = .slice A L.length c ∧ Row w A (cellsP L) ∧ L.length ≤ c := by
  rcases Nat.eq_zero_or_pos L.length with h0 | h0
  · have hl := List.length_eq_zero_iff.1 h0
    rcases h.2 with ⟨rfl, _⟩ | ⟨g, cap, cur, rfl, _⟩
    · exact ⟨none, 0, by rw [h0], .inl (by rw [hl]; rfl), by omega⟩
    · exact ⟨_, cap, rfl, .inl (by rw [hl]; rfl), by omega⟩
  · obtain ⟨g, cap, rfl, hcap, _, hr, _⟩ := ownP_row h h0
    exact ⟨_, cap, rfl, hr, hcap⟩
set_option maxRecDepth 100000 in
set_option maxHeartbeats 2000000 in
theorem of_any (A : Option Addr) (n c : Nat) (zs : List Int) (w : World) (hA : Row w A (zs.map (Value.int .i64))) (hz : n = zs.length) (hn : n ≤ 1000000) (hb : ∀ x ∈ zs, -9223372036854775808 ≤ x ∧ x ≤ 9223372036854775807) :
    Calls Try.prog 11 #[.slice A n c] w (OfPost w zs) := by
  have HZ := Lib.hid hz
  have HBD := Lib.hid hb
  clear hz hb
  go_enter Try.func11, Try.ntmps11
  go_wp2_with fail
  refine (clone_any A n c zs _ hA HZ.out (by omega)).mono ?_
  rintro e w1 ⟨v, rfl, hown1, hB1⟩
  have HO1 := Lib.hid hown1
  have HB1 := Lib.hid hB1
  clear hown1 hB1 hA
  go_wp2_with fail
  refine (sort_own _ v n zs _ HO1.out (by omega)).mono ?_
  rintro e w2 ⟨rfl, hown2, hB2⟩
  obtain ⟨z, hzs⟩ : ∃ z, z = srt zs := ⟨_, rfl⟩
  rw [← hzs] at hown2
  have HZS := Lib.hid hzs
  have HZL := Lib.hid (show n = z.length by rw [hzs, srt_length]; exact HZ.out)
  have HB2 := Lib.hid (HB1.out.trans hB2)
  have HR : Hid (∃ A c, v = .slice A n c ∧ Row w2 A (z.map (Value.int .i64))) := Lib.hid (by
    rcases Nat.eq_zero_or_pos n with h0 | h0
    · subst h0
      have hz0 : z = [] := List.length_eq_zero_iff.1 HZL.out.symm
      rcases hown2.2 with ⟨rfl, _⟩ | ⟨g, cap, cur, rfl, _⟩
      · exact ⟨none, 0, rfl, .inl (by rw [hz0]; rfl)⟩
      · exact ⟨_, cap, rfl, .inl (by rw [hz0]; rfl)⟩
    · obtain ⟨g, cap, rfl, _, hr⟩ := Row.of_own hown2 h0
      exact ⟨_, cap, rfl, hr⟩)
  obtain ⟨A2, c2, rfl, hrow⟩ := HR.out
  clear hown2 hB2 hzs HR HO1 HB1
  go_wp2_with fail
  go_loopw [4, 13] (fun s i wr => ∃ (k : Nat) (L : List (Int × Int)), k ≤ n ∧ i = .int .i64 k ∧ Hid (OfSt z k L) ∧ Hid (L = [] → s = .slice none 0 0) ∧ Hid (OwnP w2.heap.size wr s L) ∧ Hid (Below w2.heap.size w2 wr)) (fun _ i _ => n - (intOf i).toNat)
  case atStart => exact ⟨0, [], by omega, rfl, Lib.hid (OfSt.zero z), Lib.hid (fun _ => rfl), Lib.hid (World.ownsRow_nil _ _ _ _), Lib.hid (Below.refl _ _)⟩
  case round =>
    obtain ⟨k, L, hk, rfl, HST, HNIL, HOW, HB⟩ := hrel
    have HBW := Lib.hid (show Below w.heap.size w wr from HB2.out.trans (HB.out.mono HB2.out.size))
    by_cases hlt : k < n
    · have hkz : k < z.length := by have := HZL.out; omega
      obtain ⟨b, off, hA', c0⟩ := (hrow.keep (Nat.le_refl _) HB.out).cell hkz
      obtain ⟨x, hx⟩ : ∃ x, x = z[k] := ⟨_, rfl⟩
      rw [← hx] at c0
      have hxm : x ∈ zs := by have h1 : z[k] ∈ z := List.getElem_mem hkz; rw [← hx] at h1; rw [HZS.out] at h1; exact (srt_mem _ _).1 h1
      have hxb := HBD.out x hxm
      obtain ⟨hxb1, hxb2⟩ := hxb
      have hk1 : (k : Int) < (n : Int) := by omega
      have hk0 : (0 : Int) ≤ (k : Int) := by omega
      have HX := Lib.hid hx
      by_cases hbad : x < 0 ∨ 65536 ≤ x
      · have HNO := Lib.hid (show ¬ ∀ x ∈ zs, 0 ≤ x ∧ x < 65536 from fun h => by have := h x hxm; omega)
        clear hxm hx
        by_cases hx0 : x < 0
        · clear hrow hbad
          subst hA'
          go_wp2_with fail
          go_ret2
          exact ⟨HBW.out, .inr ⟨HNO.out, rfl⟩⟩
        · have hx6 : 65536 ≤ x := by omega
          clear hrow hbad
          subst hA'
          go_wp2_with fail
          go_ret2
          exact ⟨HBW.out, .inr ⟨HNO.out, rfl⟩⟩
      · have hx0 : ¬ x < 0 := by omega
        have hx6 : ¬ 65536 ≤ x := by omega
        have hx0' : 0 ≤ x := by omega
        have hx6' : x < 65536 := by omega
        clear hbad
        rcases Nat.eq_zero_or_pos k with h0 | h0
        · subst h0
          have hL : L = [] := HST.out.2.2.1.2 rfl
          subst hL
          have HP := Lib.hid (put_any w2.heap.size _ [] x (x + 1) wr HB.out.size HOW.out HNIL.out rfl (by show (-1 : Int) ≤ x; omega) hx0' (by omega) (by omega))
          have hsw : IntKind.i64.wrap (x + 1) = x + 1 := IntWalk.i64_in _ (by omega)
          rw [Nat.add_zero] at c0
          clear hx hrow hxm
          subst hA'
          go_wp2_with fail
          refine HP.out.mono ?_
          rintro e w3 ⟨N, v3, n1, n2, n3, n4, rfl, hO3, hB3⟩
          have HST2 := Lib.hid (HST.out.next (by have := HZL.out; omega) HX.out hx0' hx6' n1 n2 n3 n4)
          have HNIL2 := Lib.hid (show N = [] → v3 = .slice none 0 0 from fun h => absurd h n4)
          have HOW2 := Lib.hid hO3
          have HB3 := Lib.hid (HB.out.trans hB3)
          clear n1 n2 n3 n4 hO3 hB3
          go_wp2_with fail
          go_roundw
          case rel => exact ⟨0 + 1, N, by omega, by go_num, HST2, HNIL2, HOW2, HB3⟩
          case measure => simp [intOf]; omega
        · obtain ⟨j, hkj⟩ : ∃ j, k = j + 1 := ⟨k - 1, by omega⟩
          have hjl : j < z.length := by omega
          obtain ⟨b', off', hA'', cj⟩ := (hrow.keep (Nat.le_refl _) HB.out).cell hjl
          obtain ⟨y, hy⟩ : ∃ y, y = z[j] := ⟨_, rfl⟩
          rw [← hy] at cj
          have hyx : y ≤ x := by
            rw [hx, hy]
            have h1 := HZS.out
            subst h1
            exact srt_le zs (by omega) hkz
          have HGD := Lib.hid (show z.getD (k - 1) 0 = y by rw [hy, List.getD_eq_getElem?_getD, List.getElem?_eq_getElem (by omega)]; simp [hkj])
          have hs1 : IntKind.i64.wrap ((k : Int) - 1) = (j : Int) := by rw [IntWalk.i64_in _ (by omega)]; omega
          have hs2 : (k : Int) - 1 = (j : Int) := by omega
          have hj1 : (j : Int) < (n : Int) := by omega
          have hke : ((k : Int) == 0) = false := by simp; omega
          have hke2 : (k == 0) = false := by simp; omega
          have HK0 := Lib.hid h0
          have HKJ := Lib.hid hkj
          rw [hA'] at hA''
          obtain ⟨rfl, rfl⟩ : b = b' ∧ off = off' := by injection hA'' with h; injection h with h1 h2; exact ⟨h1, h2⟩
          by_cases hxy : x = y
          · have HST2 := Lib.hid (HST.out.again hkz h0 (by rw [HGD.out, ← HX.out]; exact hxy))
            subst hxy
            have hne : (x != x) = false := by simp
            clear hx hy hrow hxm hA'' h0 hkj
            subst hA'
            go_wp2_with fail
            go_roundw
            case rel => exact ⟨k + 1, L, by omega, by go_num, HST2, HNIL, HOW, HB⟩
            case measure => simp [intOf]; omega
          · have hne : (x != y) = true := by simp; omega
            have hne2 : (x == y) = false := by simp; omega
            have HP := Lib.hid (put_any w2.heap.size _ L x (x + 1) wr HB.out.size HOW.out HNIL.out HST.out.1 (by rw [HST.out.2.2.2.1 h0, HGD.out]; omega) hx0' (by omega) (by omega))
            have hsw : IntKind.i64.wrap (x + 1) = x + 1 := IntWalk.i64_in _ (by omega)
            clear hx hy hrow hxm hA'' h0 hkj hxy
            subst hA'
            go_wp2_with fail
            refine HP.out.mono ?_
            rintro e w3 ⟨N, v3, n1, n2, n3, n4, rfl, hO3, hB3⟩
            have HST2 := Lib.hid (HST.out.next (by have := HZL.out; omega) HX.out hx0' hx6' n1 n2 n3 n4)
            have HNIL2 := Lib.hid (show N = [] → v3 = .slice none 0 0 from fun h => absurd h n4)
            have HOW2 := Lib.hid hO3
            have HB3 := Lib.hid (HB.out.trans hB3)
            clear n1 n2 n3 n4 hO3 hB3
            go_wp2_with fail
            go_roundw
            case rel => exact ⟨k + 1, N, by omega, by go_num, HST2, HNIL2, HOW2, HB3⟩
            case measure => simp [intOf]; omega
    · have HF := Lib.hid (show z.take k = z from List.take_of_length_le (by have := HZL.out; omega))
      have hk1 : ¬ (k : Int) < (n : Int) := by omega
      obtain ⟨A3, c3, hs3, hr3, hl3⟩ := own_slice HOW.out
      clear hrow
      subst hs3
      go_wp2_with fail
      go_ret2
      refine ⟨HBW.out, .inl ⟨fun x hx => ?_, L, _, _, rfl, hr3, hl3, HST.out.1, fun x => ?_⟩⟩
      · exact HST.out.2.2.2.2 x (by rw [HF.out, HZS.out]; exact (srt_mem _ _).2 hx)
      · rw [HST.out.2.1, HF.out, HZS.out, Bool.eq_iff_iff]; simp [srt_mem]
end Go.Proofs.Ytohdkidfhohmlaa
