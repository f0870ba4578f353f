/- What two sets have, by the document: And and Minus. -/
import Derived.Test.YtohdkidfhohmlaaZF
namespace Go.Proofs.Ytohdkidfhohmlaa
open Go.RowKit
set_option linter.unusedSimpArgs false
set_option linter.unusedVariables false
def RBothPost (t : Bool → Bool → Bool) (w : World) (X Y : List (Int × Int)) (e : Ending) (w' : World) : Prop :=
  ∃ L A c, e = .returned (.slice A L.length c) ∧ Row w' A (cellsP L) ∧ rightB (-1) L = true ∧ (∀ x, hasB x L = t (hasB x X) (hasB x Y)) ∧ Below w.heap.size w w'
theorem seq_pair : ∀ (n : Nat) (a : Int), (seqZ a n).Pairwise (· < ·) ∧ ∀ x ∈ seqZ a n, a ≤ x ∧ x < a + n := by
  intro n
  induction n with
  | zero => intro a; exact ⟨.nil, by simp [seqZ]⟩
  | succ n ih =>
    intro a
    obtain ⟨h1, h2⟩ := ih (a + 1)
    rw [seqZ]
    refine ⟨List.pairwise_cons.2 ⟨fun x hx => by have := h2 x hx; omega, h1⟩, fun x hx => ?_⟩
    rcases List.mem_cons.1 hx with rfl | hx
    · omega
    · have := h2 x hx; omega
theorem listL_pair : ∀ {L : List (Int × Int)} {b : Int}, rightB b L = true → (listL L).Pairwise (· < ·) ∧ ∀ x ∈ listL L, b < x := by
  intro L
  induction L with
  | nil => intro b _; exact ⟨.nil, by simp [listL]⟩
  | cons p L ih =>
    intro b h
    obtain ⟨a1, a2, a3, a4⟩ := right_inv h
    obtain ⟨h1, h2⟩ := ih a4
    obtain ⟨s1, s2⟩ := seq_pair (p.2 - p.1).toNat p.1
    rw [show listL (p :: L) = seqZ p.1 (p.2 - p.1).toNat ++ listL L by simp [listL]]
    refine ⟨List.pairwise_append.2 ⟨s1, h1, fun x hx y hy => by have := s2 x hx; have := h2 y hy; omega⟩, fun x hx => ?_⟩
    rcases List.mem_append.1 hx with hx | hx
    · have := s2 x hx; omega
    · have := h2 x hx; omega
theorem ris_of {z : List Int} (h1 : z.Pairwise (· < ·)) (h2 : ∀ x ∈ z, 0 ≤ x ∧ x < 65536) : risR z :=
  ⟨fun i h => List.pairwise_iff_getElem.1 h1 i (i + 1) (by omega) h (by omega), h2⟩
theorem ris_keep {X : List (Int × Int)} (h : rightB (-1) X = true) (f : Int → Bool) : risR ((listL X).filter f) :=
  ris_of ((listL_pair h).1.filter f) (fun x hx => has_range h (mem_list.1 (List.mem_filter.1 hx).1))
theorem keep_has {X : List (Int × Int)} {f : Int → Bool} {x : Int} : decide (x ∈ (listL X).filter f) = (hasB x X && f x) := by
  rw [Bool.eq_iff_iff, decide_eq_true_eq, List.mem_filter, mem_list, Bool.and_eq_true]
theorem filt_succ (f : Int → Bool) {xs : List Int} {k : Nat} (h : k < xs.length) : (xs.take (k + 1)).filter f = (xs.take k).filter f ++ (if f xs[k] then [xs[k]] else []) := by
  rw [take_snoc xs k h, List.filter_append]
  congr 1
  by_cases hf : f xs[k] = true
  · simp [hf]
  · simp [hf]
theorem ints_slice {B : Nat} {w : World} {v : Value} {n : Nat} {xs : List Int} (h : w.ownsRow B 3 1 v n (xs.map (Value.int .i64))) : ∃ A c, v = .slice A n c ∧ Row w A (xs.map (Value.int .i64)) := by
  have hn : n = xs.length := by have := h.1; simpa using this.symm
  rcases Nat.eq_zero_or_pos n with h0 | h0
  · have hz0 : xs = [] := List.length_eq_zero_iff.1 (by omega)
    rcases h.2 with ⟨rfl, _⟩ | ⟨g, cap, cur, rfl, _⟩
    · exact ⟨none, 0, by rw [h0], .inl (by rw [hz0]; rfl)⟩
    · exact ⟨_, cap, rfl, .inl (by rw [hz0]; rfl)⟩
  · obtain ⟨g, cap, rfl, _, hr⟩ := Row.of_own h h0
    exact ⟨_, cap, rfl, hr⟩
theorem own_over {B : Nat} {w w' : World} {e : TypeId} {size : Nat} {v : Value} {n : Nat} {xs : List Value} (h : w.ownsRow B e size v n xs) (hb : Below w.heap.size w w') : w'.ownsRow B e size v n xs := by
  rcases h.2 with h0 | ⟨g, cap, cur, h1, h2, h3, h4⟩
  · exact ⟨h.1, .inl h0⟩
  · exact ⟨h.1, .inr ⟨g, cap, cur, h1, h2, (hb.block g (Array.getElem?_eq_some_iff.1 h3).1).trans h3, h4⟩⟩
set_option maxRecDepth 100000 in
set_option maxHeartbeats 4000000 in
theorem rand_any (AX : Option Addr) (nX cX : Nat) (X : List (Int × Int)) (AY : Option Addr) (nY cY : Nat) (Y : List (Int × Int)) (w : World) (hrX : Row w AX (cellsP X)) (hzX : nX = X.length) (hrY : Row w AY (cellsP Y)) (hzY : nY = Y.length)
    (hX : rightB (-1) X = true) (hY : rightB (-1) Y = true) :
    Calls Try.prog 29 #[.slice AX nX cX, .slice AY nY cY] w (RBothPost TT w X Y) := by
  obtain ⟨i0, hi0, hz0, hz1, hz2⟩ := info_parts Try.info3
  have hlX := right_length hX
  have hlY := right_length hY
  have hsh := listL_short hX
  subst hzX hzY
  have HRX := Lib.hid hrX
  have HRY := Lib.hid hrY
  have HTX := Lib.hid hX
  have HTY := Lib.hid hY
  obtain ⟨f, hf⟩ : ∃ f : Int → Bool, f = fun x => hasB x Y := ⟨_, rfl⟩
  have HF := Lib.hid hf
  clear hrX hrY hX hY hf
  go_enter Try.func29, Try.ntmps29
  go_wp2_with fail
  refine (rlist_any AX X.length cX X _ HRX.out rfl (by omega) HTX.out).mono ?_
  rintro e w1 ⟨Al, cl, rfl, hrl, hB1⟩
  obtain ⟨xs, hxs⟩ : ∃ xs, xs = listL X := ⟨_, rfl⟩
  obtain ⟨kl, hkl⟩ : ∃ kl, kl = xs.length := ⟨_, rfl⟩
  rw [← hxs] at hrl hsh ⊢
  rw [← hkl] at hsh ⊢
  have HXS := Lib.hid hxs
  have HKL := Lib.hid hkl
  have HRL := Lib.hid hrl
  have HRY1 := Lib.hid (HRY.out.keep (Nat.le_refl _) hB1)
  have HB1 := Lib.hid hB1
  clear hxs hkl hrl hB1 HRX HRY
  go_wp2_with fail
  go_loopw [5, 7] (fun v i wr => ∃ (k m : Nat), k ≤ kl ∧ m ≤ k ∧ i = .int .i64 k ∧ Hid (m = ((xs.take k).filter f).length) ∧ Hid (wr.ownsRow w1.heap.size 3 1 v m (((xs.take k).filter f).map (Value.int .i64))) ∧ Hid (Below w1.heap.size w1 wr)) (fun _ i _ => kl - (intOf i).toNat)
  case atStart => exact ⟨0, 0, by omega, by omega, rfl, Lib.hid rfl, Lib.hid (World.ownsRow_nil _ _ _ _), Lib.hid (Below.refl _ _)⟩
  case round =>
    obtain ⟨k, m, hk, hmk, rfl, HM, HO, HB⟩ := hrel
    by_cases hlt : k < kl
    · have hkz : k < xs.length := by have := HKL.out; omega
      obtain ⟨b, off, hA', c0⟩ := (HRL.out.keep (Nat.le_refl _) HB.out).cell hkz
      obtain ⟨x, hx⟩ : ∃ x, x = xs[k] := ⟨_, rfl⟩
      rw [← hx] at c0
      have HTS := Lib.hid (filt_succ f hkz)
      rw [← hx] at HTS
      have hk1 : (k : Int) < (kl : Int) := by omega
      have hk0 : (0 : Int) ≤ (k : Int) := by omega
      have hbw : b < w1.heap.size := by
        rcases HRL.out with h0 | ⟨b', off', he, hcc⟩
        · have hz0 : xs = [] := by simpa using h0
          subst hz0; simp at hkz
        · rw [hA'] at he; cases he; exact lt_of_cell (hcc k _ (by rw [List.getElem?_map, List.getElem?_eq_getElem hkz]; rfl))
      have hrd : ∃ r, hasB x Y = r := ⟨_, rfl⟩
      obtain ⟨r, hr⟩ := hrd
      have hfx : f x = r := by rw [HF.out, ← hr]
      have HRV := Lib.hid hr
      have HFX := Lib.hid hfx
      clear hx hr hfx hkz
      subst hA'
      go_wp2_with fail
      refine (rhas_any AY Y.length cY x Y _ (HRY1.out.keep (Nat.le_refl _) HB.out) rfl (by omega)).mono ?_
      rintro e w2 ⟨rfl, hB2⟩
      rw [HRV.out]
      have hown2 : w2.ownsRow w1.heap.size 3 1 _ m _ := own_over HO.out hB2
      have HO2 := Lib.hid hown2
      have HB2 := Lib.hid (HB.out.trans (hB2.mono HB.out.size))
      have c2 := (hB2.cell (p := ⟨b, off + k, none⟩) (lt_of_cell c0)).trans c0
      clear hown2 hB2 c0
      cases r with
      | true =>
        have hown := HO2.out
        go_wp2_with (at_builtin; refine wpList_append_own _ rfl _ _ 22 rfl w1.heap.size 3 i0 (.int .i64 0) 1 8 Try.underlying22 hi0 hz0 hz1 hz2 rfl (by decide) _ _ _ rfl (hown.alloc _) ⟨w2.heap.size, 0, none⟩ 1 1 [.int .i64 x] rfl rfl ?c1 ?c2 ?c3 ?c4 ?c5 ?_)
        case c1 => intro j u hj; match j, hj with | 0, hj => simp at hj; subst hj; simp [Addr.add]
        case c2 => intro u hu; simp at hu; subst hu; rfl
        case c3 => unfold maxLen; omega
        case c4 => omega
        case c5 => have := HB2.out.size; simp; omega
        intro v' w3 hown' hgrow _
        have HB3 := Lib.hid (show Below w1.heap.size w1 w3 from (HB2.out.alloc HB2.out.size _).grown hgrow (by have := HB2.out.size; simp; omega) (fun k hk => (hown.lt k hk).1))
        have HO3 := Lib.hid (show w3.ownsRow w1.heap.size 3 1 v' (m + 1) (((xs.take (k + 1)).filter f).map (Value.int .i64)) by
          rw [HTS.out, HFX.out]; simpa using hown')
        have HM3 := Lib.hid (show m + 1 = ((xs.take (k + 1)).filter f).length by rw [HTS.out, HFX.out, List.length_append, ← HM.out]; rfl)
        clear hown' hgrow hown c2
        go_wp2
        go_roundw
        case rel => exact ⟨k + 1, m + 1, by omega, by omega, by go_num, HM3, HO3, HB3⟩
        case measure => simp [intOf]; omega
      | false =>
        have HO3 := Lib.hid (show w2.ownsRow w1.heap.size 3 1 _ m (((xs.take (k + 1)).filter f).map (Value.int .i64)) by
          rw [HTS.out, HFX.out]; simpa using HO2.out)
        have HM3 := Lib.hid (show m = ((xs.take (k + 1)).filter f).length by rw [HTS.out, HFX.out]; simpa using HM.out)
        clear c2
        go_wp2_with fail
        go_roundw
        case rel => exact ⟨k + 1, m, by omega, by omega, by go_num, HM3, HO3, HB2⟩
        case measure => simp [intOf]; omega
    · have HT := Lib.hid (show xs.take k = xs from List.take_of_length_le (by have := HKL.out; omega))
      have hk1 : ¬ (k : Int) < (kl : Int) := by omega
      obtain ⟨A3, c3, rfl, hr3⟩ := ints_slice HO.out
      have HR3 := Lib.hid hr3
      clear hr3
      go_wp2_with fail
      refine (rset_any A3 m c3 (xs.filter f) _ (by have h := HR3.out; rw [HT.out] at h; exact h) (by have h := HM.out; rw [HT.out] at h; exact h) (by omega) (by rw [HXS.out]; exact ris_keep HTX.out f)).mono ?_
      rintro e w4 ⟨L, A4, c4, rfl, hr4, ht4, hh4, hB4⟩
      have HR4 := Lib.hid hr4
      have HT4 := Lib.hid ht4
      have HH4 := Lib.hid hh4
      have HB4 := Lib.hid (bthen HB1.out (HB.out.trans (hB4.mono HB.out.size)))
      clear hr4 ht4 hh4 hB4
      go_wp2_with fail
      go_ret
      exact ⟨L, A4, c4, rfl, HR4.out, HT4.out, fun x => by rw [HH4.out, HXS.out, keep_has, HF.out]; rfl, HB4.out⟩
set_option maxRecDepth 100000 in
set_option maxHeartbeats 4000000 in
theorem rminus_any (AX : Option Addr) (nX cX : Nat) (X : List (Int × Int)) (AY : Option Addr) (nY cY : Nat) (Y : List (Int × Int)) (w : World) (hrX : Row w AX (cellsP X)) (hzX : nX = X.length) (hrY : Row w AY (cellsP Y)) (hzY : nY = Y.length)
    (hX : rightB (-1) X = true) (hY : rightB (-1) Y = true) :
    Calls Try.prog 33 #[.slice AX nX cX, .slice AY nY cY] w (RBothPost TM w X Y) := by
  obtain ⟨i0, hi0, hz0, hz1, hz2⟩ := info_parts Try.info3
  have hlX := right_length hX
  have hlY := right_length hY
  have hsh := listL_short hX
  subst hzX hzY
  have HRX := Lib.hid hrX
  have HRY := Lib.hid hrY
  have HTX := Lib.hid hX
  have HTY := Lib.hid hY
  obtain ⟨f, hf⟩ : ∃ f : Int → Bool, f = fun x => !hasB x Y := ⟨_, rfl⟩
  have HF := Lib.hid hf
  clear hrX hrY hX hY hf
  go_enter Try.func33, Try.ntmps33
  go_wp2_with fail
  refine (rlist_any AX X.length cX X _ HRX.out rfl (by omega) HTX.out).mono ?_
  rintro e w1 ⟨Al, cl, rfl, hrl, hB1⟩
  obtain ⟨xs, hxs⟩ : ∃ xs, xs = listL X := ⟨_, rfl⟩
  obtain ⟨kl, hkl⟩ : ∃ kl, kl = xs.length := ⟨_, rfl⟩
  rw [← hxs] at hrl hsh ⊢
  rw [← hkl] at hsh ⊢
  have HXS := Lib.hid hxs
  have HKL := Lib.hid hkl
  have HRL := Lib.hid hrl
  have HRY1 := Lib.hid (HRY.out.keep (Nat.le_refl _) hB1)
  have HB1 := Lib.hid hB1
  clear hxs hkl hrl hB1 HRX HRY
  go_wp2_with fail
  go_loopw [5, 7] (fun v i wr => ∃ (k m : Nat), k ≤ kl ∧ m ≤ k ∧ i = .int .i64 k ∧ Hid (m = ((xs.take k).filter f).length) ∧ Hid (wr.ownsRow w1.heap.size 3 1 v m (((xs.take k).filter f).map (Value.int .i64))) ∧ Hid (Below w1.heap.size w1 wr)) (fun _ i _ => kl - (intOf i).toNat)
  case atStart => exact ⟨0, 0, by omega, by omega, rfl, Lib.hid rfl, Lib.hid (World.ownsRow_nil _ _ _ _), Lib.hid (Below.refl _ _)⟩
  case round =>
    obtain ⟨k, m, hk, hmk, rfl, HM, HO, HB⟩ := hrel
    by_cases hlt : k < kl
    · have hkz : k < xs.length := by have := HKL.out; omega
      obtain ⟨b, off, hA', c0⟩ := (HRL.out.keep (Nat.le_refl _) HB.out).cell hkz
      obtain ⟨x, hx⟩ : ∃ x, x = xs[k] := ⟨_, rfl⟩
      rw [← hx] at c0
      have HTS := Lib.hid (filt_succ f hkz)
      rw [← hx] at HTS
      have hk1 : (k : Int) < (kl : Int) := by omega
      have hk0 : (0 : Int) ≤ (k : Int) := by omega
      have hbw : b < w1.heap.size := by
        rcases HRL.out with h0 | ⟨b', off', he, hcc⟩
        · have hz0 : xs = [] := by simpa using h0
          subst hz0; simp at hkz
        · rw [hA'] at he; cases he; exact lt_of_cell (hcc k _ (by rw [List.getElem?_map, List.getElem?_eq_getElem hkz]; rfl))
      have hrd : ∃ r, hasB x Y = r := ⟨_, rfl⟩
      obtain ⟨r, hr⟩ := hrd
      have hfx : f x = !r := by rw [HF.out, ← hr]
      have HRV := Lib.hid hr
      have HFX := Lib.hid hfx
      clear hx hr hfx hkz
      subst hA'
      go_wp2_with fail
      refine (rhas_any AY Y.length cY x Y _ (HRY1.out.keep (Nat.le_refl _) HB.out) rfl (by omega)).mono ?_
      rintro e w2 ⟨rfl, hB2⟩
      rw [HRV.out]
      have hown2 : w2.ownsRow w1.heap.size 3 1 _ m _ := own_over HO.out hB2
      have HO2 := Lib.hid hown2
      have HB2 := Lib.hid (HB.out.trans (hB2.mono HB.out.size))
      have c2 := (hB2.cell (p := ⟨b, off + k, none⟩) (lt_of_cell c0)).trans c0
      clear hown2 hB2 c0
      cases r with
      | false =>
        have hown := HO2.out
        go_wp2_with (at_builtin; refine wpList_append_own _ rfl _ _ 22 rfl w1.heap.size 3 i0 (.int .i64 0) 1 8 Try.underlying22 hi0 hz0 hz1 hz2 rfl (by decide) _ _ _ rfl (hown.alloc _) ⟨w2.heap.size, 0, none⟩ 1 1 [.int .i64 x] rfl rfl ?c1 ?c2 ?c3 ?c4 ?c5 ?_)
        case c1 => intro j u hj; match j, hj with | 0, hj => simp at hj; subst hj; simp [Addr.add]
        case c2 => intro u hu; simp at hu; subst hu; rfl
        case c3 => unfold maxLen; omega
        case c4 => omega
        case c5 => have := HB2.out.size; simp; omega
        intro v' w3 hown' hgrow _
        have HB3 := Lib.hid (show Below w1.heap.size w1 w3 from (HB2.out.alloc HB2.out.size _).grown hgrow (by have := HB2.out.size; simp; omega) (fun k hk => (hown.lt k hk).1))
        have HO3 := Lib.hid (show w3.ownsRow w1.heap.size 3 1 v' (m + 1) (((xs.take (k + 1)).filter f).map (Value.int .i64)) by
          rw [HTS.out, HFX.out]; simpa using hown')
        have HM3 := Lib.hid (show m + 1 = ((xs.take (k + 1)).filter f).length by rw [HTS.out, HFX.out, List.length_append, ← HM.out]; rfl)
        clear hown' hgrow hown c2
        go_wp2
        go_roundw
        case rel => exact ⟨k + 1, m + 1, by omega, by omega, by go_num, HM3, HO3, HB3⟩
        case measure => simp [intOf]; omega
      | true =>
        have HO3 := Lib.hid (show w2.ownsRow w1.heap.size 3 1 _ m (((xs.take (k + 1)).filter f).map (Value.int .i64)) by
          rw [HTS.out, HFX.out]; simpa using HO2.out)
        have HM3 := Lib.hid (show m = ((xs.take (k + 1)).filter f).length by rw [HTS.out, HFX.out]; simpa using HM.out)
        clear c2
        go_wp2_with fail
        go_roundw
        case rel => exact ⟨k + 1, m, by omega, by omega, by go_num, HM3, HO3, HB2⟩
        case measure => simp [intOf]; omega
    · have HT := Lib.hid (show xs.take k = xs from List.take_of_length_le (by have := HKL.out; omega))
      have hk1 : ¬ (k : Int) < (kl : Int) := by omega
      obtain ⟨A3, c3, rfl, hr3⟩ := ints_slice HO.out
      have HR3 := Lib.hid hr3
      clear hr3
      go_wp2_with fail
      refine (rset_any A3 m c3 (xs.filter f) _ (by have h := HR3.out; rw [HT.out] at h; exact h) (by have h := HM.out; rw [HT.out] at h; exact h) (by omega) (by rw [HXS.out]; exact ris_keep HTX.out f)).mono ?_
      rintro e w4 ⟨L, A4, c4, rfl, hr4, ht4, hh4, hB4⟩
      have HR4 := Lib.hid hr4
      have HT4 := Lib.hid ht4
      have HH4 := Lib.hid hh4
      have HB4 := Lib.hid (bthen HB1.out (HB.out.trans (hB4.mono HB.out.size)))
      clear hr4 ht4 hh4 hB4
      go_wp2_with fail
      go_ret
      exact ⟨L, A4, c4, rfl, HR4.out, HT4.out, fun x => by rw [HH4.out, HXS.out, keep_has, HF.out]; rfl, HB4.out⟩
end Go.Proofs.Ytohdkidfhohmlaa
