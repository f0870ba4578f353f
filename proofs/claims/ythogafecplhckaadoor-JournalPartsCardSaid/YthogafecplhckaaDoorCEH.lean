/- The document's block. The block that bytes begin with, as the document says. All blocks that bytes begin with; lists of lists of bytes. All blocks that bytes begin with, as the document says; whether two lists are one. -/
import Derived.Test.YthogafecplhckaaDoorCAD
import Derived.Test.YthogafecplhckaaDoorZAE
import Derived.Test.YthogafecplhckaaDoorGT
namespace Go.Proofs.YthogafecplhckaaDoor
open Go.RowKit
set_option linter.unusedSimpArgs false
set_option linter.unusedVariables false
set_option maxRecDepth 100000 in
set_option maxHeartbeats 4000000 in
theorem rblock_any (A : Option Addr) (n c : Nat) (bs : List Int) (w : World) (hA : Row w A (bs.map (Value.int .u8))) (hz : n = bs.length) (hn : n ≤ 1000000) (hb : bytes bs) (hnone : A = none → n = 0 ∧ c = 0) :
    Calls Tryd.prog 33 #[.slice A n c] w (BlockPost w (blockL bs)) := by
  obtain ⟨i0, hi0, hz0, hz1, hz2⟩ := info_parts Tryd.info5
  have HZ := Lib.hid hz
  have HA := Lib.hid hA
  have HBY := Lib.hid hb
  have HN := Lib.hid hnone
  clear hz hA hb hnone
  obtain ⟨E, hE⟩ : ∃ E, E = encV (n : Int) := ⟨_, rfl⟩
  have hEl : 1 ≤ E.length ∧ E.length ≤ 10 := by rw [hE]; exact enc_bd _
  obtain ⟨hE1, hE2⟩ := hEl
  have HE := Lib.hid hE
  clear hE
  go_enter Tryd.func33, Tryd.ntmps33
  go_wp2_with fail
  refine (refint_any (n : Int) _ (by omega) (by omega)).mono ?_
  rw [← HE.out]
  rintro e w1 ⟨g, cap, rfl, hcap, hown1, hB1⟩
  have HB1 := Lib.hid hB1
  have HOW1 := Lib.hid hown1
  obtain ⟨l, hl⟩ : ∃ l, l = E.length := ⟨_, rfl⟩
  rw [← hl] at hE1 hE2 hcap ⊢
  have hown2 : w1.ownsRow w.heap.size 5 1 (.slice (some ⟨g, 0, none⟩) l cap) l (E.map (Value.int .u8)) := by rw [hl]; exact hown1
  have HL := Lib.hid hl
  clear hB1 hown1 hl
  go_wp2_with (at_builtin; refine append_bytes rfl _ _ rfl w.heap.size (.slice (some ⟨g, 0, none⟩) l cap) rfl l E hown2 A n c bs rfl (HA.out.keep (Nat.le_refl _) HB1.out) HZ.out HN.out (by omega) HB1.out.size ?_)
  intro v2 w2 hown3 hB2
  rw [← List.map_append] at hown3
  obtain ⟨A2, c2, rfl, hr2, hc2, hn2⟩ := bytes_slice hown3
  obtain ⟨body, hbody⟩ : ∃ body, body = E ++ bs := ⟨_, rfl⟩
  rw [← hbody] at hown3 hr2
  obtain ⟨m, hm⟩ : ∃ m, m = l + n := ⟨_, rfl⟩
  rw [← hm] at hown3 hc2 hn2 ⊢
  have HM := Lib.hid (show m = body.length by rw [hm, hbody, List.length_append, ← HL.out, ← HZ.out])
  have hm9 : m ≤ 16777226 := by omega
  have HBODY := Lib.hid (show body = headL bs by rw [hbody, HE.out, HZ.out]; rfl)
  have HOW2 := Lib.hid hown3
  have HR2 := Lib.hid hr2
  have HB2 := Lib.hid (HB1.out.trans hB2)
  clear hbody hm hown3 hr2 hB2 hown2 HOW1
  go_wp2_with fail
  refine (rsum_any A2 m c2 body _ HR2.out HM.out (by omega) (by rw [HBODY.out]; exact head_bytes HBY.out)).mono ?_
  rintro e w3 ⟨rfl, rfl⟩
  obtain ⟨s, hs⟩ : ∃ s, s = sumN body := ⟨_, rfl⟩
  rw [show sumI body = (s : Int) by rw [hs]; rfl]
  have hs9 : s < 4294967296 := by rw [hs]; unfold sumN; omega
  have HS := Lib.hid hs
  clear hs
  obtain ⟨y0, hy0⟩ : ∃ y : Nat, y = s / 16777216 % 256 := ⟨_, rfl⟩
  obtain ⟨y1, hy1⟩ : ∃ y : Nat, y = s / 65536 % 256 := ⟨_, rfl⟩
  obtain ⟨y2, hy2⟩ : ∃ y : Nat, y = s / 256 % 256 := ⟨_, rfl⟩
  obtain ⟨y3, hy3⟩ : ∃ y : Nat, y = s / 1 % 256 := ⟨_, rfl⟩
  have hy09 : y0 < 256 := by omega
  have hy19 : y1 < 256 := by omega
  have hy29 : y2 < 256 := by omega
  have hy39 : y3 < 256 := by omega
  have e0 : (s : Int) / 16777216 = (y0 : Int) := by omega
  have e1 : (s : Int) / 65536 % 256 = (y1 : Int) := by omega
  have e2 : (s : Int) / 256 % 256 = (y2 : Int) := by omega
  have e3 : (s : Int) % 256 = (y3 : Int) := by omega
  have HSB := Lib.hid (show sumB s = [(y0 : Int), (y1 : Int), (y2 : Int), (y3 : Int)] by rw [hy0, hy1, hy2, hy3]; rfl)
  clear hy0 hy1 hy2 hy3
  have hown := HOW2.out
  go_wp2_with (at_builtin; refine wpList_append_own _ rfl _ _ 25 rfl w.heap.size 5 i0 (.int .u8 0) 1 1 Tryd.underlying25 hi0 hz0 hz1 hz2 rfl (by decide) _ _ _ rfl (hown.alloc _) ⟨w2.heap.size, 0, none⟩ 4 4 [.int .u8 (y0 : Int), .int .u8 (y1 : Int), .int .u8 (y2 : Int), .int .u8 (y3 : Int)] rfl rfl ?c1 ?c2 ?c3 ?c4 ?c5 ?_)
  case c1 => intro j u hj; match j, hj with
             | 0, hj => simp at hj; subst hj; simp [Addr.add]
             | 1, hj => simp at hj; subst hj; simp [Addr.add]
             | 2, hj => simp at hj; subst hj; simp [Addr.add]
             | 3, hj => simp at hj; subst hj; simp [Addr.add]
  case c2 => intro u hu; simp at hu; rcases hu with rfl | rfl | rfl | rfl <;> rfl
  case c3 => unfold maxLen; omega
  case c4 => omega
  case c5 => have := HB2.out.size; simp; omega
  intro v' w3 hown' hgrow _
  have HB3 := Lib.hid (show Below w.heap.size w w3 from (bpush HB2.out _).grown hgrow (by have := HB2.out.size; simp; omega) (fun k hk => (hown.lt k hk).1))
  have HO3 := Lib.hid (show w3.ownsRow w.heap.size 5 1 v' (m + 4) ((blockL bs).map (Value.int .u8)) by
    rw [blockL, ← HBODY.out, ← HS.out, HSB.out, List.map_append]; simpa using hown')
  clear hown' hgrow hown
  go_wp2
  go_ret2
  obtain ⟨A4, c4, rfl, hr4, hc4, _⟩ := bytes_slice HO3.out
  have hlen : m + 4 = (blockL bs).length := by rw [blockL, ← HBODY.out, List.length_append, ← HM.out]; rfl
  rw [hlen] at hc4
  exact ⟨A4, c4, by rw [← hlen]; rfl, hr4, hc4, HB3.out, by rw [← hlen]; exact HO3.out⟩
theorem Bx.of_cells {w : World} {mb : Nat} {V : Value} (h : w.heap[mb]? = some (.cells #[V, .int .i64 0, .bool false] 104)) (hz : ∀ o, w.frozen? ⟨mb, o, none⟩ = false) : Bx w mb V 0 false := by
  refine ⟨by simp [World.cell?, h], by simp [World.cell?, h], by simp [World.cell?, h], fun o => ⟨hz o, fun ho => ?_⟩⟩
  simp [World.cell?, h]
  omega
theorem num_take : ∀ (m i u : Nat) (bs : List Int), bytes bs → i + m = 10 → ((i = 0 ∧ u = 0) ∨ (0 < i ∧ 128 ^ (i - 1) ≤ u)) → numAux i u (bs.take m) = numAux i u bs := by
  intro m
  induction m with
  | zero =>
    intro i u bs hb hi hu
    obtain rfl : i = 10 := by omega
    have h9 : 144115188075855871 < u := by
      rcases hu with h | h
      · omega
      · have h2 : (128 : Nat) ^ (10 - 1) ≤ u := h.2
        have h3 : (128 : Nat) ^ (10 - 1) = 9223372036854775808 := by decide
        omega
    cases bs with
    | nil => rfl
    | cons c cs => rw [num_stop (.inr h9)]; rfl
  | succ m ih =>
    intro i u bs hb hi hu
    cases bs with
    | nil => rfl
    | cons c cs =>
      rw [List.take_succ_cons]
      obtain ⟨c0, c1⟩ := hb c (by simp)
      by_cases hst : (i = 0 ∧ c = 128) ∨ 144115188075855871 < u
      · rw [num_stop hst, num_stop hst]
      · by_cases hc : c < 128
        · rw [num_end hst hc, num_end hst hc]
        · rw [num_go hst hc, num_go hst hc]
          refine ih _ _ _ (fun x hx => hb x (by simp [hx])) (by omega) (.inr ⟨by omega, ?_⟩)
          rcases hu with ⟨rfl, rfl⟩ | ⟨h0, h1⟩
          · simp; omega
          · obtain ⟨j, rfl⟩ : ∃ j, i = j + 1 := ⟨i - 1, by omega⟩
            simp only [Nat.add_sub_cancel] at h1 ⊢
            rw [Nat.pow_succ]; omega
theorem numP_take {bs : List Int} (hb : bytes bs) : numP (bs.take 10) = numP bs := by
  unfold numP
  rw [num_take 10 0 0 bs hb rfl (.inl ⟨rfl, rfl⟩)]
end Go.Proofs.YthogafecplhckaaDoor
namespace Go.Proofs.YthogafecplhckaaDoor
open Go.RowKit
set_option linter.unusedSimpArgs false
set_option linter.unusedVariables false
def RFirst (w : World) (A0 : Option Addr) (o : Option (List Int × Nat)) (e : Ending) (w' : World) : Prop :=
  match o with
  | none => e = .returned (.tuple #[.slice none 0 0, .int .i64 0, .int .i64 21]) ∧ Below w.heap.size w w'
  | some (xs, L) => ∃ A c, e = .returned (.tuple #[.slice A xs.length c, .int .i64 L, .int .i64 0]) ∧ Row w' A (xs.map (Value.int .u8)) ∧ xs.length ≤ c ∧ (A = none → c = 0) ∧ (∀ b off, A = some ⟨b, off, none⟩ → ∃ off', A0 = some ⟨b, off', none⟩) ∧ Below w.heap.size w w'
theorem firstZ_eq {bs : List Int} {x g : Nat} (hb : bytes bs) (hp : numP bs = ((x : Int), g)) (hg : 0 < g) (hx : x ≤ 16777216) :
    firstZ bs = if bs.length < g + x + 4 ∨ (bs.drop (g + x)).take 4 ≠ sumB (sumN (bs.take (g + x))) then none else some ((bs.drop g).take x, g + x + 4) := by
  unfold firstZ
  rw [numP_take hb, hp]
  simp only [Int.toNat_natCast]
  by_cases hc : bs.length < g + x + 4 ∨ (bs.drop (g + x)).take 4 ≠ sumB (sumN (bs.take (g + x)))
  · rw [if_pos hc, if_pos (.inr (.inr (.inr hc)))]
  · rw [if_neg hc, if_neg (by
      intro e
      rcases e with e | e | e | e
      · omega
      · omega
      · omega
      · exact hc e)]
theorem firstZ_bad {bs : List Int} {v : Int} {g : Nat} (hb : bytes bs) (hp : numP bs = (v, g)) (h : g = 0 ∨ v < 0 ∨ 16777216 < v) : firstZ bs = none := by
  unfold firstZ
  rw [numP_take hb, hp, if_pos (by
    rcases h with e | e | e
    · exact .inl e
    · exact .inr (.inl e)
    · exact .inr (.inr (.inl e)))]
set_option maxRecDepth 100000 in
set_option maxHeartbeats 4000000 in
theorem rfirst_any (A : Option Addr) (n c : Nat) (bs : List Int) (w : World) (hA : Row w A (bs.map (Value.int .u8))) (hz : n = bs.length) (hnc : n ≤ c) (hn : n ≤ 900000) (hb : bytes bs) (hnil : A = none → c = 0) :
    Calls Tryd.prog 58 #[.slice A n c] w (RFirst w A (firstZ bs)) := by
  have HA := Lib.hid hA
  have HZ := Lib.hid hz
  have HB := Lib.hid hb
  have HNIL := Lib.hid hnil
  obtain ⟨v, g, hp⟩ : ∃ v g, numP bs = (v, g) := ⟨_, _, rfl⟩
  obtain ⟨hg1, hg2, _, _⟩ := numP_len hp
  rw [← hz] at hg1
  have HP := Lib.hid (show numP (bs.drop 0) = (v, g) by rw [List.drop_zero]; exact hp)
  obtain ⟨w2, hw2⟩ : ∃ w2, w2 = w.alloc (.cells #[.slice A n c, .int .i64 0, .bool false] 104) := ⟨_, rfl⟩
  obtain ⟨mb, hmb⟩ : ∃ mb, mb = w.heap.size := ⟨_, rfl⟩
  have HX := Lib.hid (show Bx w2 mb (.slice A n c) 0 false from by
    subst hw2 hmb
    exact Bx.of_cells (by show (w.heap.push _)[w.heap.size]? = _; exact Array.getElem?_push_size) (fun o => by simp))
  have HB2 := Lib.hid (show Below w.heap.size w w2 from by subst hw2; exact bpush (Below.refl _ _) _)
  have hmw : w.heap.size ≤ mb := by omega
  have HW2 := Lib.hid hw2
  have HMB := Lib.hid hmb
  by_cases hbad : g = 0 ∨ v < 0 ∨ 16777216 < v
  · rw [firstZ_bad hb hp hbad]
    have HBAD := Lib.hid hbad
    clear hA hz hb hnil hp hbad hg2 hw2 hmb
    go_enter Tryd.func58, Tryd.ntmps58
    go_wp2_with fail
    rw [← HMB.out, ← HW2.out]
    refine (refrint_bad mb A n c 0 false bs 0 16777216 _ HX.out (HA.out.keep (Nat.le_refl _) HB2.out) (by omega) HZ.out (by omega) HB.out v g HP.out HBAD.out).mono ?_
    rintro e w3 ⟨rfl, hbx, hgr⟩
    have HB3 := Lib.hid (zgrown_below hgr HB2.out hmw)
    clear hbx hgr
    go_wp2_with fail
    go_ret3
    exact ⟨rfl, HB3.out⟩
  obtain ⟨x, hx⟩ : ∃ x : Nat, v = (x : Int) := ⟨v.toNat, by omega⟩
  subst hx
  have hg0 : 0 < g := by omega
  have hx9 : x ≤ 16777216 := by omega
  have hF := firstZ_eq hb hp hg0 hx9
  have hw1 : IntKind.i64.wrap ((n : Int) - (g : Int)) = (n : Int) - (g : Int) := IntWalk.i64_in _ (by omega)
  have hw3 : IntKind.i64.wrap ((n : Int) - (g : Int) - 4) = (n : Int) - (g : Int) - 4 := IntWalk.i64_in _ (by omega)
  by_cases hsz : n < g + x + 4
  · rw [hF, if_pos (.inl (by omega))]
    clear hA hz hb hnil hp hbad hg2 hw2 hmb hF
    have hd : decide ((n : Int) - (g : Int) - 4 < (x : Int)) = true := by simp; omega
    have hd2 : (n : Int) - (g : Int) - 4 < (x : Int) := by omega
    go_enter Tryd.func58, Tryd.ntmps58
    go_wp2_with fail
    rw [← HMB.out, ← HW2.out]
    refine (refrint_good mb A n c 0 false bs 0 16777216 _ HX.out (HA.out.keep (Nat.le_refl _) HB2.out) (by omega) HZ.out (by omega) HB.out (x : Int) g HP.out (by omega) (by omega) (by omega)).mono ?_
    rintro e w3 ⟨rfl, hbx, hgr⟩
    have HB3 := Lib.hid (zgrown_below hgr HB2.out hmw)
    obtain ⟨b0, b1, b2, b3⟩ := hbx
    rw [Nat.zero_add] at b1
    clear hgr b3 b2
    go_wp2_with fail
    go_ret3
    exact ⟨rfl, HB3.out⟩
  obtain ⟨xs, hxs⟩ : ∃ xs, xs = (bs.drop g).take x := ⟨_, rfl⟩
  have hxl : x = xs.length := by rw [hxs, List.length_take, List.length_drop]; omega
  obtain ⟨b, off, rfl⟩ := hA.head (by omega)
  have HRX := Lib.hid (show Row w (some ⟨b, off + g, none⟩) (xs.map (Value.int .u8)) by rw [hxs]; exact ((hA.part g).2.part x).1)
  have HXL := Lib.hid hxl
  have HXB := Lib.hid (show bytes xs from fun z hz => hb z (by rw [hxs] at hz; exact List.mem_of_mem_drop (List.mem_of_mem_take hz)))
  have hblk : blockL xs = bs.take (g + x) ++ sumB (sumN (bs.take (g + x))) := by
    have e1 : encV (xs.length : Int) = bs.take g := by rw [← hxl]; exact numP_back hb hp hg0
    have e2 : headL xs = bs.take (g + x) := by rw [headL, e1, hxs, ← List.take_add]
    rw [blockL, e2]
  have HBL := Lib.hid hblk
  have hbl : (blockL xs).length = g + x + 4 := by rw [hblk, List.length_append, List.length_take]; simp [sumB]; omega
  have HLL := Lib.hid hbl
  have HRB := Lib.hid (show Row w (some ⟨b, off, none⟩) ((bs.take (g + x + 4)).map (Value.int .u8)) from (hA.part _).1)
  have hd : decide ((n : Int) - (g : Int) - 4 < (x : Int)) = false := by simp; omega
  have hd2 : ¬ (n : Int) - (g : Int) - 4 < (x : Int) := by omega
  have hws : IntKind.i64.wrap ((g : Int) + (x : Int)) = ((g + x : Nat) : Int) := by rw [IntWalk.i64_in _ (by omega)]; omega
  obtain ⟨S, hS⟩ : ∃ S, S = g + x := ⟨_, rfl⟩
  have hSg : S - g = x := by omega
  have hgS : g ≤ S := by omega
  have hcg1 : ¬ c = g := by omega
  have hcg2 : ¬ g = c := by omega
  have hcg3 : (c == g) = false := by simp; omega
  have hSc : S ≤ c := by omega
  have hSn : S + 4 ≤ n := by omega
  have hsplit : bs.take (g + x + 4) = bs.take (g + x) ++ (bs.drop (g + x)).take 4 := List.take_add
  have HF := Lib.hid (show firstZ bs = if blockL xs = bs.take (g + x + 4) then some (xs, S + 4) else none by
    rw [hF, ← hxs, hblk, hsplit, hS]
    by_cases e : (bs.drop (g + x)).take 4 = sumB (sumN (bs.take (g + x)))
    · rw [if_neg (by rintro (h | h); omega; exact h e), if_pos (by rw [e])]
    · rw [if_pos (.inr e), if_neg (fun h => e (List.append_cancel_left h).symm)])
  rw [← hS] at hws hbl HLL
  have HS := Lib.hid hS
  obtain ⟨o, ho⟩ : ∃ o, o = firstZ bs := ⟨_, rfl⟩
  rw [← ho] at HF ⊢
  have HO := Lib.hid ho
  clear ho hA hz hb hnil hp hbad hg2 hw2 hmb hF hxs hxl hblk hbl hsplit hS
  go_enter Tryd.func58, Tryd.ntmps58
  go_wp2_with fail
  rw [← HMB.out, ← HW2.out]
  refine (refrint_good mb (some ⟨b, off, none⟩) n c 0 false bs 0 16777216 _ HX.out (HA.out.keep (Nat.le_refl _) HB2.out) (by omega) HZ.out (by omega) HB.out (x : Int) g HP.out (by omega) (by omega) (by omega)).mono ?_
  rintro e w3 ⟨rfl, hbx, hgr⟩
  have HB3 := Lib.hid (zgrown_below hgr HB2.out hmw)
  obtain ⟨b0, b1, b2, b3⟩ := hbx
  rw [Nat.zero_add] at b1
  clear hgr b3 b2
  go_wp2_with fail
  go_quiet (fail)
  go_wp2_with fail
  refine (rblock_any (some ⟨b, off + g, none⟩) x (c - g) xs _ (HRX.out.keep (Nat.le_refl _) (below_drewN HB3.out _)) HXL.out (by omega) HXB.out (fun h => by cases h)).mono ?_
  rintro e w4 ⟨A4, c4, rfl, hr4, hc4, hB4, ho4⟩
  rw [HLL.out]
  rw [HLL.out] at hc4
  have HB4 := Lib.hid (bthen (below_drewN HB3.out _) hB4)
  have HR4 := Lib.hid hr4
  clear hr4 hB4 ho4
  obtain ⟨q1, hq1⟩ : ∃ q, q = strOfNums (blockL xs) := ⟨_, rfl⟩
  obtain ⟨q2, hq2⟩ : ∃ q, q = strOfNums (bs.take (g + x + 4)) := ⟨_, rfl⟩
  have hS4 : S + 4 = (bs.take (g + x + 4)).length := by rw [List.length_take, ← HZ.out, HS.out]; have := HS.out; omega
  have v1 : ∀ r, Sem.run Tryd.prog (convert 25 9 (.slice A4 (S + 4) c4)) (w4.drewN r) = .ok (.string q1) (w4.drewN r) := fun r => by
    rw [hq1]; exact conv_any (HR4.out.keep (Nat.le_refl _) (below_drewN (Below.refl _ _) r)) HLL.out.symm
  have v2 : ∀ r, Sem.run Tryd.prog (convert 25 9 (.slice (some ⟨b, off, none⟩) (S + 4) c)) (w4.drewN r) = .ok (.string q2) (w4.drewN r) := fun r => by
    rw [hq2]; exact conv_any ((HRB.out.keep (Nat.le_refl _) HB4.out).keep (Nat.le_refl _) (below_drewN (Below.refl _ _) r)) hS4
  have HQ := Lib.hid (show q1 = q2 ↔ blockL xs = bs.take (g + x + 4) by
    rw [hq1, hq2]
    constructor
    · exact strOf_inj (blockL_bytes HXB.out) (fun z hz => HB.out z (List.mem_of_mem_take hz))
    · intro h; rw [h])
  have HRX4 := Lib.hid (HRX.out.keep (Nat.le_refl _) HB4.out)
  clear hq1 hq2 hS4 b0 b1
  have t : ∀ a b : ByteArray, a ≠ b → (a.toList == b.toList) = false := fun a b hn => by
    rw [ByteArray.toList_eq, ByteArray.toList_eq, beq_eq_false_iff_ne]
    exact fun h => hn (by cases a; cases b; congr 1; exact Array.toList_inj.1 h)
  by_cases e : q1 = q2
  · obtain rfl : o = some (xs, S + 4) := by rw [HF.out, if_pos (HQ.out.1 e)]
    clear HF HQ t HO
    subst e
    go_wp2_with fail
    go_quiet (fail)
    go_wp2_with fail
    go_ret3
    exact ⟨some ⟨b, off + g, none⟩, c - g, by rw [← HXL.out]; rfl, HRX4.out.keep (Nat.le_refl _) (below_drewN (Below.refl _ _) _), by rw [← HXL.out]; omega, (fun h => by cases h), (fun b' off' h => by cases h; exact ⟨_, rfl⟩), below_drewN HB4.out _⟩
  · obtain rfl : o = none := by rw [HF.out, if_neg (fun h => e (HQ.out.2 h))]
    have tt := t _ _ e
    clear HF HQ t e HO
    go_wp2_with fail
    go_quiet (fail)
    go_wp2_with fail
    go_ret3
    exact ⟨rfl, below_drewN HB4.out _⟩
end Go.Proofs.YthogafecplhckaaDoor
namespace Go.Proofs.YthogafecplhckaaDoor
open Go.RowKit
set_option linter.unusedSimpArgs false
set_option linter.unusedVariables false
/-- Slices of bytes, one behind the other, none of which lies in one block. -/
def Rws (w : World) (row : Option Nat) (vs : List Value) (L : List (List Int)) : Prop :=
  vs.length = L.length ∧ ∀ (i : Nat) (xs : List Int), L[i]? = some xs → ∃ A c, vs[i]? = some (.slice A xs.length c) ∧ Row w A (xs.map (Value.int .u8)) ∧ xs.length ≤ c ∧ (A = none → c = 0) ∧ (0 < xs.length → ∀ b off, A = some ⟨b, off, none⟩ → some b ≠ row)
theorem Rws.keep {w w' : World} {row : Option Nat} {vs : List Value} {L : List (List Int)} (h : Rws w row vs L) (hb : Below w.heap.size w w') : Rws w' row vs L :=
  ⟨h.1, fun i xs hi => by obtain ⟨A, c, h1, h2, h3, h4, h5⟩ := h.2 i xs hi; exact ⟨A, c, h1, h2.keep (Nat.le_refl _) hb, h3, h4, h5⟩⟩
theorem Rws.free {w : World} {row : Option Nat} {vs : List Value} {L : List (List Int)} (h : Rws w row vs L) : Rws w none vs L :=
  ⟨h.1, fun i xs hi => by obtain ⟨A, c, h1, h2, h3, h4, h5⟩ := h.2 i xs hi; exact ⟨A, c, h1, h2, h3, h4, fun _ _ _ _ => by simp⟩⟩
theorem Rws.nil (w : World) (row : Option Nat) : Rws w row [] [] := ⟨rfl, fun i xs h => by simp at h⟩
theorem Rws.snoc {w : World} {row : Option Nat} {vs : List Value} {L : List (List Int)} (h : Rws w row vs L) {A : Option Addr} {n c : Nat} {xs : List Int} (hn : n = xs.length) (hr : Row w A (xs.map (Value.int .u8))) (hc : n ≤ c) (ha : A = none → c = 0) (hf : ∀ b off, A = some ⟨b, off, none⟩ → some b ≠ row) :
    Rws w row (vs ++ [.slice A n c]) (L ++ [xs]) := by
  subst hn
  refine ⟨by simp [h.1], fun i ys hi => ?_⟩
  rcases Nat.lt_or_ge i L.length with hl | hl
  · rw [List.getElem?_append_left hl] at hi
    rw [List.getElem?_append_left (by rw [h.1]; exact hl)]
    exact h.2 i ys hi
  · rw [List.getElem?_append_right hl] at hi
    have : i - L.length = 0 := by
      rcases Nat.eq_zero_or_pos (i - L.length) with e | e
      · exact e
      · rw [List.getElem?_eq_none (by simp; omega)] at hi; cases hi
    rw [this] at hi
    simp at hi
    subst hi
    rw [List.getElem?_append_right (by rw [h.1]; exact hl), h.1, this]
    exact ⟨A, c, rfl, hr, hc, ha, fun _ => hf⟩
theorem Rws.step {w w' : World} {row row' : Option Nat} {vs : List Value} {L : List (List Int)} (h : Rws w row vs L) (hg : w.grownBy w' row) (hr : row' = row ∨ row' = some w.heap.size) : Rws w' row' vs L :=
  ⟨h.1, fun i xs hi => by
    obtain ⟨A, c, h1, h2, h3, h4, h5⟩ := h.2 i xs hi
    refine ⟨A, c, h1, ?_, h3, h4, fun h0 b off hA => ?_⟩
    · rcases h2 with h2 | ⟨b, off, rfl, hc⟩
      · exact .inl h2
      · rcases Nat.eq_zero_or_pos xs.length with h0 | h0
        · left; rw [List.length_eq_zero_iff.1 h0]; rfl
        · exact row_grown hg (.inr ⟨b, off, rfl, hc⟩) (h5 h0 b off rfl)
    · subst hA
      rcases hr with rfl | rfl
      · exact h5 h0 b off rfl
      · obtain ⟨b', off', he, hc⟩ := Row.cell h2 h0
        cases he
        have := lt_of_cell hc
        intro e; cases e; omega⟩
def blocksF : Nat → List Int → List (List Int) × Nat
  | 0, _ => ([], 0)
  | f + 1, bs => match firstZ bs with
    | none => ([], 0)
    | some (x, k) => (x :: (blocksF f (bs.drop k)).1, k + (blocksF f (bs.drop k)).2)
def blocksZ (bs : List Int) : List (List Int) × Nat := blocksF (bs.length + 1) bs
theorem firstZ_bd {bs x : List Int} {k : Nat} (h : firstZ bs = some (x, k)) : 5 ≤ k ∧ k ≤ bs.length ∧ x.length ≤ bs.length := by
  unfold firstZ at h
  split at h
  · cases h
  · rename_i hc
    simp only [Option.some.injEq, Prod.mk.injEq] at h
    obtain ⟨rfl, rfl⟩ := h
    simp only [not_or, List.length_take, List.length_drop] at hc ⊢
    omega
theorem blocksF_more : ∀ (f g : Nat) (bs : List Int), bs.length < f → bs.length < g → blocksF f bs = blocksF g bs := by
  intro f
  induction f with
  | zero => intro g bs h; omega
  | succ f ih =>
    intro g bs hf hg
    obtain ⟨g, rfl⟩ : ∃ g', g = g' + 1 := ⟨g - 1, by omega⟩
    rw [blocksF, blocksF]
    cases he : firstZ bs with
    | none => rfl
    | some p =>
      obtain ⟨x, k⟩ := p
      have hb := firstZ_bd he
      have := ih g (bs.drop k) (by rw [List.length_drop]; omega) (by rw [List.length_drop]; omega)
      simp only [this]
theorem blocksZ_none {bs : List Int} (h : firstZ bs = none) : blocksZ bs = ([], 0) := by unfold blocksZ; rw [blocksF, h]
theorem blocksZ_some {bs x : List Int} {k : Nat} (h : firstZ bs = some (x, k)) : blocksZ bs = (x :: (blocksZ (bs.drop k)).1, k + (blocksZ (bs.drop k)).2) := by
  have hb := firstZ_bd h
  unfold blocksZ
  rw [blocksF, h]
  simp only
  rw [blocksF_more bs.length ((bs.drop k).length + 1) (bs.drop k) (by rw [List.length_drop]; omega) (by omega)]
theorem Tryd.info25 : (Tryd.prog.info? 25).map (fun i => (i.zero, i.size, i.bytes)) = some (some (.slice none 0 0), 1, 24) := by kernel_rfl
theorem Tryd.underlying76 : Tryd.prog.underlying 76 = some (.slice 25) := by kernel_rfl
def BlocksPost (w : World) (r : List (List Int) × Nat) (e : Ending) (w' : World) : Prop :=
  ∃ A c vs, e = .returned (.tuple #[.slice A r.1.length c, .int .i64 r.2]) ∧ Row w' A vs ∧ Rws w' none vs r.1 ∧ r.1.length ≤ c ∧ (A = none → c = 0) ∧ Below w.heap.size w w'
theorem row_drop {w : World} {A : Option Addr} {zs : List Int} (h : Row w A (zs.map (Value.int .u8))) (k : Nat) : Row w (A.map (·.add k)) ((zs.drop k).map (Value.int .u8)) := by
  rcases h with h | ⟨b, off, rfl, hc⟩
  · simp at h; subst h; exact .inl (by simp)
  · have := ((show Row w (some ⟨b, off, none⟩) (zs.map (Value.int .u8)) from .inr ⟨b, off, rfl, hc⟩).part k).2
    have e : (⟨b, off, none⟩ : Addr).add k = ⟨b, off + k, none⟩ := by
      unfold Addr.add; split
      · rename_i h; subst h; rfl
      · rfl
    simpa [e] using this
end Go.Proofs.YthogafecplhckaaDoor
namespace Go.Proofs.YthogafecplhckaaDoor
open Go.RowKit
set_option linter.unusedSimpArgs false
set_option linter.unusedVariables false
set_option maxRecDepth 100000 in
set_option maxHeartbeats 4000000 in
theorem rblocks_any (A : Option Addr) (n c : Nat) (bs : List Int) (w : World) (hA : Row w A (bs.map (Value.int .u8))) (hz : n = bs.length) (hnc : n ≤ c) (hn : n ≤ 900000) (hb : bytes bs) (hnil : A = none → c = 0) :
    Calls Tryd.prog 31 #[.slice A n c] w (BlocksPost w (blocksZ bs)) := by
  obtain ⟨i0, hi0, hz0, hz1, hz2⟩ := info_parts Tryd.info25
  have HA := Lib.hid hA
  have HZ := Lib.hid hz
  have HB := Lib.hid hb
  have HNIL := Lib.hid hnil
  obtain ⟨r, hr⟩ : ∃ r, r = blocksZ bs := ⟨_, rfl⟩
  rw [← hr]
  have HR := Lib.hid hr
  clear hA hz hb hnil hr
  go_enter Tryd.func31, Tryd.ntmps31
  go_wp2_with fail
  go_loopw [4, 5] (fun v i wr => ∃ (at' k : Nat) (vs : List Value) (D : List (List Int)), at' ≤ n ∧ k = D.length ∧ k ≤ at' ∧ i = .int .i64 at' ∧ Hid (wr.ownsRow w.heap.size 25 1 v k vs) ∧ Hid (Rws wr v.ownBlock vs D) ∧ Hid (Below w.heap.size w wr) ∧ Hid (r = (D ++ (blocksZ (bs.drop at')).1, at' + (blocksZ (bs.drop at')).2))) (fun _ i _ => n - (intOf i).toNat)
  case atStart => exact ⟨0, 0, [], [], by omega, rfl, by omega, rfl, Lib.hid (World.ownsRow_nil _ _ _ _), Lib.hid (Rws.nil _ _), Lib.hid (Below.refl _ _), Lib.hid (by rw [HR.out]; simp)⟩
  case round =>
    obtain ⟨p, k, vs, D, hp, hk, hkp, rfl, HO, HS, HBW, HE⟩ := hrel
    have HK := Lib.hid hk
    clear hk
    obtain ⟨A2, hA2⟩ : ∃ A2, A2 = if c = p then A else A.map (·.add p) := ⟨_, rfl⟩
    have HA2 := Lib.hid (show Row w A2 ((bs.drop p).map (Value.int .u8)) by
      rw [hA2]
      split
      · left; rw [List.drop_of_length_le (by have := HZ.out; omega)]; rfl
      · exact row_drop HA.out p)
    have HN2 := Lib.hid (show A2 = none → c - p = 0 by
      intro h
      rw [hA2] at h
      split at h
      · have := HNIL.out h; omega
      · cases A with
        | none => have := HNIL.out rfl; omega
        | some a => cases h)
    have HZ2 := Lib.hid (show n - p = (bs.drop p).length by rw [List.length_drop, ← HZ.out])
    have HB2 := Lib.hid (show bytes (bs.drop p) from fun z hz => HB.out z (List.mem_of_mem_drop hz))
    cases ho : firstZ (bs.drop p) with
    | none =>
      have HE2 := Lib.hid (show r = (D, p) by rw [HE.out, blocksZ_none ho]; simp)
      have HF := Lib.hid ho
      clear ho HE
      clear hA2 HA2 HN2
      have fin : ∀ w2 : World, Below wr.heap.size wr w2 → ∃ A c vs, (Value.tuple #[u4, .int .i64 (p : Int)]) = .tuple #[.slice A r.1.length c, .int .i64 r.2] ∧ Row w2 A vs ∧ Rws w2 none vs r.1 ∧ r.1.length ≤ c ∧ (A = none → c = 0) ∧ Below w.heap.size w w2 := by
        intro w2 hb2
        obtain ⟨A4, c4, he, h1, h2, h3⟩ := own_slice (own_below HO.out hb2)
        exact ⟨A4, c4, vs, by rw [HE2.out, he]; show _ = Value.tuple #[.slice A4 D.length c4, .int .i64 p]; rw [← HK.out], h1, by rw [HE2.out]; exact (HS.out.keep hb2).free, by rw [HE2.out]; show D.length ≤ c4; rw [← HK.out]; exact h2, h3, bthen HBW.out hb2⟩
      have FIN := Lib.hid fin
      clear fin
      by_cases hcp : c = p
      · have hA0 := HA.out.keep (Nat.le_refl _) HBW.out
        have hd0 : bs.drop p = [] := List.drop_of_length_le (by have := HZ.out; omega)
        have HA0 := Lib.hid (show Row wr A ((bs.drop p).map (Value.int .u8)) from .inl (by rw [hd0]; rfl))
        clear hA0 hd0
        go_wp2_with fail
        refine (rfirst_any A (n - p) 0 (bs.drop p) _ HA0.out HZ2.out (by omega) (by omega) HB2.out (fun _ => rfl)).mono ?_
        rw [HF.out]
        rintro e w2 ⟨rfl, hb2⟩
        have HBB := Lib.hid hb2
        clear hb2
        go_wp2_with fail
        go_ret2
        obtain ⟨A4, c4, vs4, he, h⟩ := FIN.out _ HBB.out
        exact ⟨A4, c4, vs4, by rw [← he]; rfl, h⟩
      · have HN0 := Lib.hid (show A.map (·.add p) = none → c - p = 0 by
          intro h
          cases A with
          | none => have := HNIL.out rfl; omega
          | some a => cases h)
        go_wp2_with fail
        refine (rfirst_any (A.map (·.add p)) (n - p) (c - p) (bs.drop p) _ (row_drop (HA.out.keep (Nat.le_refl _) HBW.out) p) HZ2.out (by omega) (by omega) HB2.out HN0.out).mono ?_
        rw [HF.out]
        rintro e w2 ⟨rfl, hb2⟩
        have HBB := Lib.hid hb2
        clear hb2
        go_wp2_with fail
        go_ret2
        obtain ⟨A4, c4, vs4, he, h⟩ := FIN.out _ HBB.out
        exact ⟨A4, c4, vs4, by rw [← he]; rfl, h⟩
    | some q =>
      obtain ⟨x, m⟩ := q
      have hbd := firstZ_bd ho
      rw [← HZ2.out] at hbd
      obtain ⟨hm1, hm2, hm3⟩ := hbd
      have HE2 := Lib.hid (show r = ((D ++ [x]) ++ (blocksZ (bs.drop (p + m))).1, (p + m) + (blocksZ (bs.drop (p + m))).2) by
        rw [HE.out, blocksZ_some ho, List.drop_drop]; simp [Nat.add_assoc])
      have HF := Lib.hid ho
      have hw1 : IntKind.i64.wrap ((p : Int) + (m : Int)) = (p : Int) + (m : Int) := IntWalk.i64_in _ (by omega)
      clear ho HE
      clear hA2 HA2 HN2
      have hcp : ¬ c = p := by omega
      have HN0 := Lib.hid (show A.map (·.add p) = none → c - p = 0 by
        intro h
        cases A with
        | none => have := HNIL.out rfl; omega
        | some a => cases h)
      go_wp2_with fail
      refine (rfirst_any (A.map (·.add p)) (n - p) (c - p) (bs.drop p) _ (row_drop (HA.out.keep (Nat.le_refl _) HBW.out) p) HZ2.out (by omega) (by omega) HB2.out HN0.out).mono ?_
      rw [HF.out]
      rintro e w2 ⟨A3, c3, rfl, hr3, h52, h53, hal, hb2⟩
      obtain ⟨z, hz⟩ : ∃ z, z = x.length := ⟨_, rfl⟩
      rw [← hz] at h52 ⊢
      have hown := own_below HO.out hb2
      have hfar : ∀ b off, A3 = some ⟨b, off, none⟩ → some b ≠ u4.ownBlock := by
        intro b off hA e
        obtain ⟨off', h0⟩ := hal b off hA
        have h1 : b < w.heap.size := by
          cases hAA : A with
          | none => rw [hAA] at h0; cases h0
          | some ad =>
            have hr := HA.out
            rw [hAA] at h0 hr
            obtain ⟨b1, off1, e1, hc1⟩ := hr.cell (i := 0) (by have := HZ.out; omega)
            cases e1
            simp only [Option.map_some, Option.some.injEq] at h0
            have h2 : (({ block := b1, off := off1 } : Addr).add p).block = b1 := by unfold Addr.add; split <;> rfl
            have h3 : b1 = b := by
              have := congrArg Addr.block h0
              rw [← h2]; simpa using this
            rw [← h3]; exact lt_of_cell hc1
        have h2 := (HO.out.lt b e.symm).1
        omega
      have HS2 := Lib.hid ((HS.out.keep hb2).snoc hz hr3 h52 h53 hfar)
      have HBW2 := Lib.hid (bthen HBW.out hb2)
      clear hb2 hr3 h53 hz hfar hal
      go_wp2_with (at_builtin; refine wpList_append_own_at _ rfl _ _ 76 rfl w.heap.size 25 i0 (.slice none 0 0) 1 24 Tryd.underlying76 hi0 hz0 hz1 hz2 rfl (by decide) _ _ _ rfl (hown.alloc _) ⟨w2.heap.size, 0, none⟩ 1 1 [.slice A3 z c3] rfl rfl ?c1 ?c2 ?c3 ?c4 ?c5 ?_)
      case c1 => intro j u hj; match j, hj with | 0, hj => simp at hj; subst hj; simp [Addr.add]
      case c2 => intro u hu; simp at hu; subst hu; rfl
      case c3 => unfold maxLen; omega
      case c4 => omega
      case c5 => have := HBW2.out.size; simp; omega
      intro v' w3 hown' hgrow _ hrow
      have HB3 := Lib.hid (show Below w.heap.size w w3 from (bpush HBW2.out _).grown hgrow (by have := HBW2.out.size; simp; omega) (fun k hk => (hown.lt k hk).1))
      have HS3 := Lib.hid ((HS2.out.keep (bpush (Below.refl _ _) _)).step hgrow (by simpa using hrow))
      have HO3 := Lib.hid hown'
      clear hown' hgrow hrow hown
      go_wp2_with fail
      go_roundw
      case rel => exact ⟨p + m, k + 1, _, D ++ [x], by omega, by rw [HK.out]; simp, by omega, by go_num, HO3, HS3, HB3, HE2⟩
      case measure => simp [intOf]; omega
theorem Rws.at {w : World} {row : Option Nat} {vs : List Value} {L : List (List Int)} {A : Option Addr} {k : Nat} {xs : List Int} (h : Rws w row vs L) (hA : Row w A vs) (hk : L[k]? = some xs) :
    ∃ b off A2 c2, A = some ⟨b, off, none⟩ ∧ w.cell? ⟨b, off + k, none⟩ = some (.slice A2 xs.length c2) ∧ Row w A2 (xs.map (Value.int .u8)) ∧ xs.length ≤ c2 ∧ (A2 = none → c2 = 0) := by
  obtain ⟨A2, c2, h1, h2, h3, h4, _⟩ := h.2 k xs hk
  rcases hA with hA | ⟨b, off, rfl, hc⟩
  · rw [hA] at h1; simp at h1
  · exact ⟨b, off, A2, c2, rfl, hc k _ h1, h2, h3, h4⟩
theorem Rws.drewN {w : World} {row : Option Nat} {vs : List Value} {L : List (List Int)} (h : Rws w row vs L) (m : Nat) : Rws (w.drewN m) row vs L := h.keep (below_drewN (Below.refl _ _) m)
end Go.Proofs.YthogafecplhckaaDoor
