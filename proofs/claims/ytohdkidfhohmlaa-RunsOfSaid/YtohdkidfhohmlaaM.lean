/- A set's numbers, one behind the other, both sides. -/
import Derived.Test.YtohdkidfhohmlaaL
namespace Go.Proofs.Ytohdkidfhohmlaa
open Go.RowKit
set_option linter.unusedSimpArgs false
set_option linter.unusedVariables false
/-- n numbers from a on. -/
def seqZ (a : Int) : Nat → List Int
  | 0 => []
  | n + 1 => a :: seqZ (a + 1) n
theorem seqZ_length : ∀ (n : Nat) (a : Int), (seqZ a n).length = n := by
  intro n
  induction n with
  | zero => intro a; rfl
  | succ n ih => intro a; rw [seqZ, List.length_cons, ih]
theorem seqZ_snoc : ∀ (n : Nat) (a : Int), seqZ a (n + 1) = seqZ a n ++ [a + n] := by
  intro n
  induction n with
  | zero => intro a; simp [seqZ]
  | succ n ih =>
    intro a
    rw [seqZ, ih (a + 1), seqZ]
    simp only [List.cons_append, List.cons.injEq, true_and]
    congr 2
    omega
def listL (L : List (Int × Int)) : List Int := L.flatMap fun p => seqZ p.1 (p.2 - p.1).toNat
theorem listL_app (L M : List (Int × Int)) : listL (L ++ M) = listL L ++ listL M := by simp [listL]
theorem listL_length {b : Int} : ∀ {L : List (Int × Int)}, rightB b L = true → ∀ {c : Int}, c ≤ b → ((listL L).length : Int) ≤ 65536 - c ∨ L = [] := by
  intro L
  induction L generalizing b with
  | nil => intro _ c _; exact .inr rfl
  | cons p L ih =>
    intro h c hc
    obtain ⟨h1, h2, h3, h4⟩ := right_inv h
    left
    rw [show p :: L = [p] ++ L from rfl, listL_app, List.length_append]
    have h5 : (listL [p]).length = (p.2 - p.1).toNat := by simp [listL, seqZ_length]
    rw [h5]
    rcases ih h4 (Int.le_refl _) with h | h
    · omega
    · subst h; simp [listL]; omega
theorem listL_short {L : List (Int × Int)} (h : rightB (-1) L = true) : (listL L).length ≤ 65537 := by
  rcases listL_length h (Int.le_refl _) with h | h
  · omega
  · subst h; simp [listL]
theorem listL_take_succ {L : List (Int × Int)} {k : Nat} (h : k < L.length) : listL (L.take (k + 1)) = listL (L.take k) ++ seqZ L[k].1 (L[k].2 - L[k].1).toNat := by
  rw [take_snoc L k h, listL_app]; simp [listL]
theorem right_get : ∀ {L : List (Int × Int)} {b : Int}, rightB b L = true → -1 ≤ b → ∀ {k : Nat} (h : k < L.length), 0 ≤ L[k].1 ∧ L[k].1 < L[k].2 ∧ L[k].2 ≤ 65536 := by
  intro L
  induction L with
  | nil => intro b _ _ k h; simp at h
  | cons p L ih =>
    intro b h hb k hk
    obtain ⟨h1, h2, h3, h4⟩ := right_inv h
    cases k with
    | zero => exact ⟨by show 0 ≤ p.1; omega, h2, h3⟩
    | succ k => exact ih h4 (by omega) (by simpa using hk)
/-- A new list of numbers is answered. -/
def ListPost (w : World) (xs : List Int) (e : Ending) (w' : World) : Prop := ∃ A c, e = .returned (.slice A xs.length c) ∧ Row w' A (xs.map (Value.int .i64)) ∧ Below w.heap.size w w'
theorem ListPost.of_own {w w' : World} {v : Value} {n : Nat} {xs : List Int} (h : w'.ownsRow w.heap.size 3 1 v n (xs.map (Value.int .i64))) (hb : Below w.heap.size w w') : ListPost w xs (.returned v) w' := by
  have hn : n = xs.length := by have := h.1; simpa using this.symm
  subst hn
  rcases Nat.eq_zero_or_pos xs.length with h0 | h0
  · rcases h.2 with ⟨rfl, _⟩ | ⟨g, cap, cur, rfl, _⟩
    · exact ⟨none, 0, by rw [h0], .inl (by rw [List.length_eq_zero_iff.1 h0]; rfl), hb⟩
    · exact ⟨_, cap, rfl, .inl (by rw [List.length_eq_zero_iff.1 h0]; rfl), hb⟩
  · obtain ⟨g, cap, rfl, _, hr⟩ := Row.of_own h h0
    exact ⟨_, cap, rfl, hr, hb⟩
theorem rank_bd {b x : Int} : ∀ {L : List (Int × Int)}, rightB b L = true → 0 ≤ rankZ x L := by
  intro L
  induction L generalizing b with
  | nil => intro _; simp [rankZ]
  | cons p L ih =>
    intro h
    obtain ⟨h1, h2, h3, h4⟩ := right_inv h
    have := ih h4
    rw [rankZ]
    split <;> omega
theorem listL_rank : ∀ {L : List (Int × Int)} {b : Int}, rightB b L = true → ((listL L).length : Int) = rankZ 65536 L := by
  intro L
  induction L with
  | nil => intro b _; rfl
  | cons p L ih =>
    intro b h
    obtain ⟨h1, h2, h3, h4⟩ := right_inv h
    rw [show p :: L = [p] ++ L from rfl, listL_app, List.length_append, show [p] ++ L = p :: L from rfl, rankZ, if_pos (by omega), Int.min_eq_left h3]
    have h5 : (listL [p]).length = (p.2 - p.1).toNat := by simp [listL, seqZ_length]
    have := ih h4
    rw [h5]
    omega
theorem bpush2 {w wo wx : World} (h : Hid (Below w.heap.size wo wx)) (h2 : Hid (Below w.heap.size w wx)) (o : Obj) : Below w.heap.size wo (wx.alloc o) := h.out.alloc h2.out.size o
set_option maxRecDepth 100000 in
set_option maxHeartbeats 2000000 in
theorem rlist_any (A : Option Addr) (n c : Nat) (L : List (Int × Int)) (w : World) (hA : Row w A (cellsP L)) (hz : n = L.length) (hn : n ≤ 1000000) (hr : rightB (-1) L = true) :
    Calls Try.prog 22 #[.slice A n c] w (ListPost w (listL L)) := by
  obtain ⟨i0, hi0, hz0, hz1, hz2⟩ := info_parts Try.info3
  have HZ := Lib.hid hz
  have HRT := Lib.hid hr
  have HSH : Hid (∀ k, (listL (L.take k)).length ≤ 65537 ∧ ∀ h : k < L.length, (listL (L.take k)).length + (L[k].2 - L[k].1).toNat ≤ 65537) := Lib.hid (by
    have hall := listL_short hr
    have hk : ∀ k, (listL (L.take k)).length ≤ 65537 := fun k => by
      have : (listL (L.take k)).length ≤ (listL (L.take k ++ L.drop k)).length := by rw [listL_app, List.length_append]; omega
      rw [List.take_append_drop] at this; omega
    refine fun k => ⟨hk k, fun h => ?_⟩
    have := hk (k + 1)
    rw [listL_take_succ h, List.length_append, seqZ_length] at this
    exact this)
  clear hz hr
  go_enter Try.func22, Try.ntmps22
  go_wp2_with fail
  go_loopw [3, 4] (fun v i wr => ∃ (k m : Nat), k ≤ n ∧ i = .int .i64 k ∧ Hid (m = (listL (L.take k)).length) ∧ Hid (wr.ownsRow w.heap.size 3 1 v m ((listL (L.take k)).map (Value.int .i64))) ∧ Hid (Below w.heap.size w wr)) (fun _ i _ => n - (intOf i).toNat)
  case atStart => exact ⟨0, 0, by omega, rfl, Lib.hid rfl, Lib.hid (World.ownsRow_nil _ _ _ _), Lib.hid (Below.refl _ _)⟩
  case round =>
    obtain ⟨k, m, hk, rfl, HM, HO, HB⟩ := hrel
    by_cases hlt : k < n
    · have hkz : k < L.length := by have := HZ.out; omega
      obtain ⟨b, off, hA', c0, c1⟩ := (hA.keep (Nat.le_refl _) HB.out).at2 hkz
      obtain ⟨hp0, hpy, hy6⟩ := right_get HRT.out (Int.le_refl _) hkz
      obtain ⟨p, hp⟩ : ∃ p, p = L[k].1 := ⟨_, rfl⟩
      obtain ⟨y, hy⟩ : ∃ y, y = L[k].2 := ⟨_, rfl⟩
      have hall := (HSH.out k).2 hkz
      rw [← HM.out] at hall
      have HTS := Lib.hid (listL_take_succ hkz)
      rw [← hp] at c0
      rw [← hp] at hp0
      rw [← hp, ← hy] at hpy hall HTS
      rw [← hy] at c1 hy6
      have hb : b < w.heap.size := by
        rcases hA with h0 | ⟨b', off', he, hcc⟩
        · have := cellsP_length L; rw [h0] at this; simp at this; omega
        · rw [hA'] at he; cases he; exact lt_of_cell (hcc _ _ (cellsP_get L k hkz).1)
      have HC := Lib.hid (show ∀ wx, Below w.heap.size wr wx → wx.cell? ⟨b, off + k * 2 + 1, none⟩ = some (.int .i64 y) from fun wx hx => (hx.cell (p := ⟨b, off + k * 2 + 1, none⟩) hb).trans c1)
      have hk1 : (k : Int) < (n : Int) := by omega
      have hk0 : (0 : Int) ≤ (k : Int) := by omega
      clear hp hy hA
      subst hA'
      obtain ⟨wo, rfl⟩ : ∃ wo : World, wo = wr := ⟨_, rfl⟩
      go_wp2_with fail
      go_loopw [3, 5] (fun v i wx => ∃ (j : Nat), (j : Int) ≤ y - p ∧ i = .int .i64 (p + j) ∧ Hid (wx.ownsRow w.heap.size 3 1 v (m + j) ((listL (L.take k) ++ seqZ p j).map (Value.int .i64))) ∧ Hid (Below w.heap.size wo wx)) (fun _ i _ => (y - intOf i).toNat)
      case atStart => exact ⟨0, by omega, by simp, Lib.hid (by simpa [seqZ] using HO.out), Lib.hid (Below.refl _ _)⟩
      case round =>
        obtain ⟨j, hj, rfl, HOJ, HBJ⟩ := hrel
        have HBX := Lib.hid (show Below w.heap.size w wr from HB.out.trans HBJ.out)
        have c2 := HC.out wr HBJ.out
        by_cases hx : p + j < y
        · have hxw : IntKind.i64.wrap (p + (j : Int) + 1) = p + ((j + 1 : Nat) : Int) := by rw [IntWalk.i64_in _ (by omega)]; omega
          have hown := HOJ.out
          go_wp2_with (at_builtin; refine wpList_append_own _ rfl _ _ 22 rfl w.heap.size 3 i0 (.int .i64 0) 1 8 Try.underlying22 hi0 hz0 hz1 hz2 rfl (by decide) _ _ _ rfl (hown.alloc _) ⟨wr.heap.size, 0, none⟩ 1 1 [.int .i64 (p + j)] rfl rfl ?c1 ?c2 ?c3 ?c4 ?c5 ?_)
          case c1 => intro j u hj; match j, hj with | 0, hj => simp at hj; subst hj; simp [Addr.add]
          case c2 => intro u hu; simp at hu; subst hu; rfl
          case c3 => unfold maxLen; omega
          case c4 => omega
          case c5 => have := HBX.out.size; simp; omega
          intro v' w1 hown' hgrow _
          have HB' := Lib.hid (show Below w.heap.size wo w1 from (bpush2 HBJ HBX _).grown hgrow (by have := HBX.out.size; simp; omega) (fun k hk => (hown.lt k hk).1))
          have HO2 := Lib.hid (show w1.ownsRow w.heap.size 3 1 v' (m + (j + 1)) ((listL (L.take k) ++ seqZ p (j + 1)).map (Value.int .i64)) by
            rw [seqZ_snoc, ← List.append_assoc, List.map_append, List.map_append, List.append_assoc]; exact hown')
          clear hown' hgrow hown c2
          go_wp2
          go_roundw
          case rel => exact ⟨j + 1, by omega, by first | rfl | go_num | (rw [hxw]), HO2, HB'⟩
          case measure => simp [intOf]; omega
        · obtain rfl : y = p + j := by omega
          have hjn : (p + (j : Int) - p).toNat = j := by omega
          have HO2 := Lib.hid (show wr.ownsRow w.heap.size 3 1 _ (m + j) ((listL (L.take (k + 1))).map (Value.int .i64)) by
            rw [HTS.out, hjn]; exact HOJ.out)
          have HM2 := Lib.hid (show m + j = (listL (L.take (k + 1))).length by rw [HTS.out, List.length_append, seqZ_length, hjn, ← HM.out])
          clear hjn
          go_wp2_with fail
          go_roundw
          case rel => exact ⟨k + 1, m + j, by omega, by go_num, HM2, HO2, HBX⟩
          case measure => simp [intOf]; omega
    · have hk1 : ¬ (k : Int) < (n : Int) := by omega
      have HF := Lib.hid (show L.take k = L from List.take_of_length_le (by have := HZ.out; omega))
      go_wp2_with fail
      go_ret
      exact ListPost.of_own (by rw [← HF.out]; exact HO.out) HB.out
set_option maxRecDepth 100000 in
set_option maxHeartbeats 1000000 in
theorem list_no (A : Option Addr) (n c : Nat) (L : List (Int × Int)) (w : World) (hA : Row w A (cellsP L)) (hz : n = L.length) (hn : n ≤ 1000000) (hr : rightB (-1) L = false) :
    Calls Try.prog 15 #[.slice A n c] w (ListPost w []) := by
  have HRT := Lib.hid hr
  have HZ := Lib.hid hz
  clear hr hz
  go_enter Try.func15, Try.ntmps15
  go_wp2_with fail
  refine (right_any A n c L _ hA HZ.out (by omega)).mono ?_
  rintro e w1 ⟨rfl, hB1⟩
  rw [HRT.out]
  have HB1 := Lib.hid hB1
  clear hB1
  go_wp2_with fail
  go_ret
  exact ⟨none, 0, rfl, .inl rfl, HB1.out⟩
set_option maxRecDepth 100000 in
set_option maxHeartbeats 2000000 in
theorem list_any (A : Option Addr) (n c : Nat) (L : List (Int × Int)) (w : World) (hA : Row w A (cellsP L)) (hz : n = L.length) (hn : n ≤ 1000000) (hr : rightB (-1) L = true) :
    Calls Try.prog 15 #[.slice A n c] w (ListPost w (listL L)) := by
  obtain ⟨i0, hi0, hz0, hz1, hz2⟩ := info_parts Try.info3
  have HZ := Lib.hid hz
  have HRT := Lib.hid hr
  have HSH : Hid (∀ k, (listL (L.take k)).length ≤ 65537 ∧ ∀ h : k < L.length, (listL (L.take k)).length + (L[k].2 - L[k].1).toNat ≤ 65537) := Lib.hid (by
    have hall := listL_short hr
    have hk : ∀ k, (listL (L.take k)).length ≤ 65537 := fun k => by
      have : (listL (L.take k)).length ≤ (listL (L.take k ++ L.drop k)).length := by rw [listL_app, List.length_append]; omega
      rw [List.take_append_drop] at this; omega
    refine fun k => ⟨hk k, fun h => ?_⟩
    have := hk (k + 1)
    rw [listL_take_succ h, List.length_append, seqZ_length] at this
    exact this)
  clear hz hr
  go_enter Try.func15, Try.ntmps15
  go_wp2_with fail
  refine (right_any A n c L _ hA HZ.out (by omega)).mono ?_
  rintro e w1 ⟨rfl, hB1⟩
  rw [HRT.out]
  have HB1 := Lib.hid hB1
  clear hB1
  go_wp2_with fail
  go_loopw [3, 12] (fun v i wr => ∃ (k m : Nat), k ≤ n ∧ i = .int .i64 k ∧ Hid (m = (listL (L.take k)).length) ∧ Hid (wr.ownsRow w.heap.size 3 1 v m ((listL (L.take k)).map (Value.int .i64))) ∧ Hid (Below w.heap.size w wr)) (fun _ i _ => n - (intOf i).toNat)
  case atStart => exact ⟨0, 0, by omega, rfl, Lib.hid rfl, Lib.hid (World.ownsRow_nil _ _ _ _), HB1⟩
  case round =>
    clear HB1
    obtain ⟨k, m, hk, rfl, HM, HO, HB⟩ := hrel
    by_cases hlt : k < n
    · have hkz : k < L.length := by have := HZ.out; omega
      obtain ⟨b, off, hA', c0, c1⟩ := (hA.keep (Nat.le_refl _) HB.out).at2 hkz
      obtain ⟨hp0, hpy, hy6⟩ := right_get HRT.out (Int.le_refl _) hkz
      obtain ⟨p, hp⟩ : ∃ p, p = L[k].1 := ⟨_, rfl⟩
      obtain ⟨y, hy⟩ : ∃ y, y = L[k].2 := ⟨_, rfl⟩
      have hall := (HSH.out k).2 hkz
      rw [← HM.out] at hall
      have HTS := Lib.hid (listL_take_succ hkz)
      rw [← hp] at c0
      rw [← hp] at hp0
      rw [← hp, ← hy] at hpy hall HTS
      rw [← hy] at c1 hy6
      have hk1 : (k : Int) < (n : Int) := by omega
      have hk0 : (0 : Int) ≤ (k : Int) := by omega
      clear hp hy hA
      subst hA'
      obtain ⟨wo, rfl⟩ : ∃ wo : World, wo = wr := ⟨_, rfl⟩
      obtain ⟨b0, hb0⟩ : ∃ b0, b0 = wo.heap.size := ⟨_, rfl⟩
      have HB0 := Lib.hid hb0
      have HNB := Lib.hid (show ∀ v, wo.ownsRow w.heap.size 3 1 v m ((listL (L.take k)).map (Value.int .i64)) → v.ownBlock ≠ some b0 from fun v h e => by have := (h.lt b0 e).2; omega)
      clear hb0
      go_wp2_with fail
      rw [← HB0.out]
      go_loopw [3, 6] (fun v i wx => ∃ (j : Nat), (j : Int) ≤ y - p ∧ i = .int .i64 (p + j) ∧ Hid (wx.ownsRow w.heap.size 3 1 v (m + j) ((listL (L.take k) ++ seqZ p j).map (Value.int .i64))) ∧ Hid (Below w.heap.size w wx) ∧ Hid (Blk wx b0 45 #[.int .i64 p, .int .i64 y]) ∧ Hid (v.ownBlock ≠ some b0)) (fun _ i _ => (y - intOf i).toNat)
      case atStart => exact ⟨0, by omega, by simp, Lib.hid (by simpa [seqZ] using HO.out.alloc _), Lib.hid (bpush HB.out _), Lib.hid (by rw [HB0.out]; exact Blk.new _ _ _), Lib.hid (HNB.out _ HO.out)⟩
      case round =>
        obtain ⟨j, hj, rfl, HOJ, HBX, HBK, HNE⟩ := hrel
        have c2 : wr.cell? ⟨b0, 1, none⟩ = some (.int .i64 y) := HBK.out.cell 1
        by_cases hx : p + j < y
        · have hxw : IntKind.i64.wrap (p + (j : Int) + 1) = p + ((j + 1 : Nat) : Int) := by rw [IntWalk.i64_in _ (by omega)]; omega
          have hown := HOJ.out
          go_wp2_with (at_builtin; refine wpList_append_own_at _ rfl _ _ 22 rfl w.heap.size 3 i0 (.int .i64 0) 1 8 Try.underlying22 hi0 hz0 hz1 hz2 rfl (by decide) _ _ _ rfl (hown.alloc _) ⟨wr.heap.size, 0, none⟩ 1 1 [.int .i64 (p + j)] rfl rfl ?c1 ?c2 ?c3 ?c4 ?c5 ?_)
          case c1 => intro j u hj; match j, hj with | 0, hj => simp at hj; subst hj; simp [Addr.add]
          case c2 => intro u hu; simp at hu; subst hu; rfl
          case c3 => unfold maxLen; omega
          case c4 => omega
          case c5 => have := HBX.out.size; simp; omega
          intro v' w1 hown' hgrow _ hblk
          have HB' := Lib.hid (show Below w.heap.size w w1 from (bpush HBX.out _).grown hgrow (by have := HBX.out.size; simp; omega) (fun k hk => (hown.lt k hk).1))
          have HNE2 := Lib.hid (show v'.ownBlock ≠ some b0 by
            rcases hblk with h | h
            · rw [h]; exact HNE.out
            · rw [h]; intro e; have := HBK.out.lt; simp at e; omega)
          have HBK2 := Lib.hid (show Blk w1 b0 45 #[.int .i64 p, .int .i64 y] from (hgrow.block b0 (by have := HBK.out.lt; simp; omega) (fun e => HNE.out e.symm)).trans (HBK.out.alloc _))
          have HO2 := Lib.hid (show w1.ownsRow w.heap.size 3 1 v' (m + (j + 1)) ((listL (L.take k) ++ seqZ p (j + 1)).map (Value.int .i64)) by
            rw [seqZ_snoc, ← List.append_assoc, List.map_append, List.map_append, List.append_assoc]; exact hown')
          clear hown' hgrow hown c2 hblk
          go_wp2
          go_roundw
          case rel => exact ⟨j + 1, by omega, by first | rfl | go_num | (rw [hxw]), HO2, HB', HBK2, HNE2⟩
          case measure => simp [intOf]; omega
        · obtain rfl : y = p + j := by omega
          have hjn : (p + (j : Int) - p).toNat = j := by omega
          have HO2 := Lib.hid (show wr.ownsRow w.heap.size 3 1 _ (m + j) ((listL (L.take (k + 1))).map (Value.int .i64)) by
            rw [HTS.out, hjn]; exact HOJ.out)
          have HM2 := Lib.hid (show m + j = (listL (L.take (k + 1))).length by rw [HTS.out, List.length_append, seqZ_length, hjn, ← HM.out])
          clear hjn
          go_wp2_with fail
          go_roundw
          case rel => exact ⟨k + 1, m + j, by omega, by go_num, HM2, HO2, HBX⟩
          case measure => simp [intOf]; omega
    · have hk1 : ¬ (k : Int) < (n : Int) := by omega
      have HF := Lib.hid (show L.take k = L from List.take_of_length_le (by have := HZ.out; omega))
      go_wp2_with fail
      go_ret
      exact ListPost.of_own (by rw [← HF.out]; exact HO.out) HB.out
end Go.Proofs.Ytohdkidfhohmlaa
