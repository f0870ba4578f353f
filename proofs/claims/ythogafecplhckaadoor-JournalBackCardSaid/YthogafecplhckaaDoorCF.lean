/- The block that bytes begin with, as the document says. -/
import Derived.Test.YthogafecplhckaaDoorCE
namespace Go.Proofs.YthogafecplhckaaDoor
open Go.RowKit
set_option linter.unusedSimpArgs false
set_option linter.unusedVariables false
def RFirst (w : World) (A0 : Option Addr) (o : Option (List Int × Nat)) (e : Ending) (w' : World) : Prop :=
  match o with
  | none => e = .returned (.tuple #[.slice none 0 0, .int .i64 0, .int .i64 21]) ∧ Below w.heap.size w w'
  | some (xs, L) => ∃ A c, e = .returned (.tuple #[.slice A xs.length c, .int .i64 L, .int .i64 0]) ∧ Row w' A (xs.map (Value.int .u8)) ∧ xs.length ≤ c ∧ (A = none → c = 0) ∧ (∀ b off, A = some ⟨b, off, none⟩ → ∃ off', A0 = some ⟨b, off', none⟩) ∧ Below w.heap.size w w'
theorem firstZ_eq {bs : List Int} {x g : Nat} (hb : bytes bs) (hp : numP bs = ((x : Int), g)) (hg : 0 < g) (hx : x ≤ 16777216) :
    firstZ bs = if bs.length < g + x + 4 ∨ (bs.drop (g + x)).take 4 ≠ sumB (sumN (bs.take (g + x))) then none else some ((bs.drop g).take x, g + x + 4) := by
  unfold firstZ
  rw [numP_take hb, hp]
  simp only [Int.toNat_natCast]
  by_cases hc : bs.length < g + x + 4 ∨ (bs.drop (g + x)).take 4 ≠ sumB (sumN (bs.take (g + x)))
  · rw [if_pos hc, if_pos (.inr (.inr (.inr hc)))]
  · rw [if_neg hc, if_neg (by
      intro e
      rcases e with e | e | e | e
      · omega
      · omega
      · omega
      · exact hc e)]
theorem firstZ_bad {bs : List Int} {v : Int} {g : Nat} (hb : bytes bs) (hp : numP bs = (v, g)) (h : g = 0 ∨ v < 0 ∨ 16777216 < v) : firstZ bs = none := by
  unfold firstZ
  rw [numP_take hb, hp, if_pos (by
    rcases h with e | e | e
    · exact .inl e
    · exact .inr (.inl e)
    · exact .inr (.inr (.inl e)))]
set_option maxRecDepth 100000 in
set_option maxHeartbeats 4000000 in
theorem rfirst_any (A : Option Addr) (n c : Nat) (bs : List Int) (w : World) (hA : Row w A (bs.map (Value.int .u8))) (hz : n = bs.length) (hnc : n ≤ c) (hn : n ≤ 900000) (hb : bytes bs) (hnil : A = none → c = 0) :
    Calls Tryd.prog 58 #[.slice A n c] w (RFirst w A (firstZ bs)) := by
  have HA := Lib.hid hA
  have HZ := Lib.hid hz
  have HB := Lib.hid hb
  have HNIL := Lib.hid hnil
  obtain ⟨v, g, hp⟩ : ∃ v g, numP bs = (v, g) := ⟨_, _, rfl⟩
  obtain ⟨hg1, hg2, _, _⟩ := numP_len hp
  rw [← hz] at hg1
  have HP := Lib.hid (show numP (bs.drop 0) = (v, g) by rw [List.drop_zero]; exact hp)
  obtain ⟨w2, hw2⟩ : ∃ w2, w2 = w.alloc (.cells #[.slice A n c, .int .i64 0, .bool false] 104) := ⟨_, rfl⟩
  obtain ⟨mb, hmb⟩ : ∃ mb, mb = w.heap.size := ⟨_, rfl⟩
  have HX := Lib.hid (show Bx w2 mb (.slice A n c) 0 false from by
    subst hw2 hmb
    exact Bx.of_cells (by show (w.heap.push _)[w.heap.size]? = _; exact Array.getElem?_push_size) (fun o => by simp))
  have HB2 := Lib.hid (show Below w.heap.size w w2 from by subst hw2; exact bpush (Below.refl _ _) _)
  have hmw : w.heap.size ≤ mb := by omega
  have HW2 := Lib.hid hw2
  have HMB := Lib.hid hmb
  by_cases hbad : g = 0 ∨ v < 0 ∨ 16777216 < v
  · rw [firstZ_bad hb hp hbad]
    have HBAD := Lib.hid hbad
    clear hA hz hb hnil hp hbad hg2 hw2 hmb
    go_enter Tryd.func58, Tryd.ntmps58
    go_wp2_with fail
    rw [← HMB.out, ← HW2.out]
    refine (refrint_bad mb A n c 0 false bs 0 16777216 _ HX.out (HA.out.keep (Nat.le_refl _) HB2.out) (by omega) HZ.out (by omega) HB.out v g HP.out HBAD.out).mono ?_
    rintro e w3 ⟨rfl, hbx, hgr⟩
    have HB3 := Lib.hid (zgrown_below hgr HB2.out hmw)
    clear hbx hgr
    go_wp2_with fail
    go_ret3
    exact ⟨rfl, HB3.out⟩
  obtain ⟨x, hx⟩ : ∃ x : Nat, v = (x : Int) := ⟨v.toNat, by omega⟩
  subst hx
  have hg0 : 0 < g := by omega
  have hx9 : x ≤ 16777216 := by omega
  have hF := firstZ_eq hb hp hg0 hx9
  have hw1 : IntKind.i64.wrap ((n : Int) - (g : Int)) = (n : Int) - (g : Int) := IntWalk.i64_in _ (by omega)
  have hw3 : IntKind.i64.wrap ((n : Int) - (g : Int) - 4) = (n : Int) - (g : Int) - 4 := IntWalk.i64_in _ (by omega)
  by_cases hsz : n < g + x + 4
  · rw [hF, if_pos (.inl (by omega))]
    clear hA hz hb hnil hp hbad hg2 hw2 hmb hF
    have hd : decide ((n : Int) - (g : Int) - 4 < (x : Int)) = true := by simp; omega
    have hd2 : (n : Int) - (g : Int) - 4 < (x : Int) := by omega
    go_enter Tryd.func58, Tryd.ntmps58
    go_wp2_with fail
    rw [← HMB.out, ← HW2.out]
    refine (refrint_good mb A n c 0 false bs 0 16777216 _ HX.out (HA.out.keep (Nat.le_refl _) HB2.out) (by omega) HZ.out (by omega) HB.out (x : Int) g HP.out (by omega) (by omega) (by omega)).mono ?_
    rintro e w3 ⟨rfl, hbx, hgr⟩
    have HB3 := Lib.hid (zgrown_below hgr HB2.out hmw)
    obtain ⟨b0, b1, b2, b3⟩ := hbx
    rw [Nat.zero_add] at b1
    clear hgr b3 b2
    go_wp2_with fail
    go_ret3
    exact ⟨rfl, HB3.out⟩
  obtain ⟨xs, hxs⟩ : ∃ xs, xs = (bs.drop g).take x := ⟨_, rfl⟩
  have hxl : x = xs.length := by rw [hxs, List.length_take, List.length_drop]; omega
  obtain ⟨b, off, rfl⟩ := hA.head (by omega)
  have HRX := Lib.hid (show Row w (some ⟨b, off + g, none⟩) (xs.map (Value.int .u8)) by rw [hxs]; exact ((hA.part g).2.part x).1)
  have HXL := Lib.hid hxl
  have HXB := Lib.hid (show bytes xs from fun z hz => hb z (by rw [hxs] at hz; exact List.mem_of_mem_drop (List.mem_of_mem_take hz)))
  have hblk : blockL xs = bs.take (g + x) ++ sumB (sumN (bs.take (g + x))) := by
    have e1 : encV (xs.length : Int) = bs.take g := by rw [← hxl]; exact numP_back hb hp hg0
    have e2 : headL xs = bs.take (g + x) := by rw [headL, e1, hxs, ← List.take_add]
    rw [blockL, e2]
  have HBL := Lib.hid hblk
  have hbl : (blockL xs).length = g + x + 4 := by rw [hblk, List.length_append, List.length_take]; simp [sumB]; omega
  have HLL := Lib.hid hbl
  have HRB := Lib.hid (show Row w (some ⟨b, off, none⟩) ((bs.take (g + x + 4)).map (Value.int .u8)) from (hA.part _).1)
  have hd : decide ((n : Int) - (g : Int) - 4 < (x : Int)) = false := by simp; omega
  have hd2 : ¬ (n : Int) - (g : Int) - 4 < (x : Int) := by omega
  have hws : IntKind.i64.wrap ((g : Int) + (x : Int)) = ((g + x : Nat) : Int) := by rw [IntWalk.i64_in _ (by omega)]; omega
  obtain ⟨S, hS⟩ : ∃ S, S = g + x := ⟨_, rfl⟩
  have hSg : S - g = x := by omega
  have hgS : g ≤ S := by omega
  have hcg1 : ¬ c = g := by omega
  have hcg2 : ¬ g = c := by omega
  have hcg3 : (c == g) = false := by simp; omega
  have hSc : S ≤ c := by omega
  have hSn : S + 4 ≤ n := by omega
  have hsplit : bs.take (g + x + 4) = bs.take (g + x) ++ (bs.drop (g + x)).take 4 := List.take_add
  have HF := Lib.hid (show firstZ bs = if blockL xs = bs.take (g + x + 4) then some (xs, S + 4) else none by
    rw [hF, ← hxs, hblk, hsplit, hS]
    by_cases e : (bs.drop (g + x)).take 4 = sumB (sumN (bs.take (g + x)))
    · rw [if_neg (by rintro (h | h); omega; exact h e), if_pos (by rw [e])]
    · rw [if_pos (.inr e), if_neg (fun h => e (List.append_cancel_left h).symm)])
  rw [← hS] at hws hbl HLL
  have HS := Lib.hid hS
  obtain ⟨o, ho⟩ : ∃ o, o = firstZ bs := ⟨_, rfl⟩
  rw [← ho] at HF ⊢
  have HO := Lib.hid ho
  clear ho hA hz hb hnil hp hbad hg2 hw2 hmb hF hxs hxl hblk hbl hsplit hS
  go_enter Tryd.func58, Tryd.ntmps58
  go_wp2_with fail
  rw [← HMB.out, ← HW2.out]
  refine (refrint_good mb (some ⟨b, off, none⟩) n c 0 false bs 0 16777216 _ HX.out (HA.out.keep (Nat.le_refl _) HB2.out) (by omega) HZ.out (by omega) HB.out (x : Int) g HP.out (by omega) (by omega) (by omega)).mono ?_
  rintro e w3 ⟨rfl, hbx, hgr⟩
  have HB3 := Lib.hid (zgrown_below hgr HB2.out hmw)
  obtain ⟨b0, b1, b2, b3⟩ := hbx
  rw [Nat.zero_add] at b1
  clear hgr b3 b2
  go_wp2_with fail
  go_quiet (fail)
  go_wp2_with fail
  refine (rblock_any (some ⟨b, off + g, none⟩) x (c - g) xs _ (HRX.out.keep (Nat.le_refl _) (below_drewN HB3.out _)) HXL.out (by omega) HXB.out (fun h => by cases h)).mono ?_
  rintro e w4 ⟨A4, c4, rfl, hr4, hc4, hB4, ho4⟩
  rw [HLL.out]
  rw [HLL.out] at hc4
  have HB4 := Lib.hid (bthen (below_drewN HB3.out _) hB4)
  have HR4 := Lib.hid hr4
  clear hr4 hB4 ho4
  obtain ⟨q1, hq1⟩ : ∃ q, q = strOfNums (blockL xs) := ⟨_, rfl⟩
  obtain ⟨q2, hq2⟩ : ∃ q, q = strOfNums (bs.take (g + x + 4)) := ⟨_, rfl⟩
  have hS4 : S + 4 = (bs.take (g + x + 4)).length := by rw [List.length_take, ← HZ.out, HS.out]; have := HS.out; omega
  have v1 : ∀ r, Sem.run Tryd.prog (convert 25 9 (.slice A4 (S + 4) c4)) (w4.drewN r) = .ok (.string q1) (w4.drewN r) := fun r => by
    rw [hq1]; exact conv_any (HR4.out.keep (Nat.le_refl _) (below_drewN (Below.refl _ _) r)) HLL.out.symm
  have v2 : ∀ r, Sem.run Tryd.prog (convert 25 9 (.slice (some ⟨b, off, none⟩) (S + 4) c)) (w4.drewN r) = .ok (.string q2) (w4.drewN r) := fun r => by
    rw [hq2]; exact conv_any ((HRB.out.keep (Nat.le_refl _) HB4.out).keep (Nat.le_refl _) (below_drewN (Below.refl _ _) r)) hS4
  have HQ := Lib.hid (show q1 = q2 ↔ blockL xs = bs.take (g + x + 4) by
    rw [hq1, hq2]
    constructor
    · exact strOf_inj (blockL_bytes HXB.out) (fun z hz => HB.out z (List.mem_of_mem_take hz))
    · intro h; rw [h])
  have HRX4 := Lib.hid (HRX.out.keep (Nat.le_refl _) HB4.out)
  clear hq1 hq2 hS4 b0 b1
  have t : ∀ a b : ByteArray, a ≠ b → (a.toList == b.toList) = false := fun a b hn => by
    rw [ByteArray.toList_eq, ByteArray.toList_eq, beq_eq_false_iff_ne]
    exact fun h => hn (by cases a; cases b; congr 1; exact Array.toList_inj.1 h)
  by_cases e : q1 = q2
  · obtain rfl : o = some (xs, S + 4) := by rw [HF.out, if_pos (HQ.out.1 e)]
    clear HF HQ t HO
    subst e
    go_wp2_with fail
    go_quiet (fail)
    go_wp2_with fail
    go_ret3
    exact ⟨some ⟨b, off + g, none⟩, c - g, by rw [← HXL.out]; rfl, HRX4.out.keep (Nat.le_refl _) (below_drewN (Below.refl _ _) _), by rw [← HXL.out]; omega, (fun h => by cases h), (fun b' off' h => by cases h; exact ⟨_, rfl⟩), below_drewN HB4.out _⟩
  · obtain rfl : o = none := by rw [HF.out, if_neg (fun h => e (HQ.out.2 h))]
    have tt := t _ _ e
    clear HF HQ t e HO
    go_wp2_with fail
    go_quiet (fail)
    go_wp2_with fail
    go_ret3
    exact ⟨rfl, below_drewN HB4.out _⟩
end Go.Proofs.YthogafecplhckaaDoor
