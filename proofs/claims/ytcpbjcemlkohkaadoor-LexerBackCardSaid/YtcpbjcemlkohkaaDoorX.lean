/- The document's bytes' kinds, ends and numbers. -/
import Derived.Test.YtcpbjcemlkohkaaDoorW
namespace Go.Proofs.YtcpbjcemlkohkaaDoor
open Go.RowKit
set_option linter.unusedSimpArgs false
set_option linter.unusedVariables false
set_option maxRecDepth 100000 in
set_option maxHeartbeats 16000000 in
theorem refsign_any (c : UInt8) (w : World) (r : Bool) (hr : r = sgn c) : Calls Tryd.prog 17 #[.int .u8 (c.toNat : Int)] w fun e w' => e = .returned (.bool r) ∧ w = w' := by
  have HR := Lib.hid hr
  clear hr
  by_cases h44 : c = 44
  · have q44 : ((c.toNat : Int) == 44) = true := c_yes (k := 44) (by omega) h44
    obtain rfl : r = true := by rw [HR.out, h44]; rfl
    clear h44
    go_enter Tryd.func17, Tryd.ntmps17
    go_wp2
    go_ret
    exact ⟨rfl, rfl⟩
  have q44 : ((c.toNat : Int) == 44) = false := c_ne (k := 44) (by omega) h44
  have H44 := Lib.hid (show (c == 44) = false from beq_eq_false_iff_ne.2 h44)
  clear h44
  by_cases h40 : c = 40
  · have q40 : ((c.toNat : Int) == 40) = true := c_yes (k := 40) (by omega) h40
    obtain rfl : r = true := by rw [HR.out, h40]; rfl
    clear h40
    go_enter Tryd.func17, Tryd.ntmps17
    go_wp2
    go_ret
    exact ⟨rfl, rfl⟩
  have q40 : ((c.toNat : Int) == 40) = false := c_ne (k := 40) (by omega) h40
  have H40 := Lib.hid (show (c == 40) = false from beq_eq_false_iff_ne.2 h40)
  clear h40
  by_cases h41 : c = 41
  · have q41 : ((c.toNat : Int) == 41) = true := c_yes (k := 41) (by omega) h41
    obtain rfl : r = true := by rw [HR.out, h41]; rfl
    clear h41
    go_enter Tryd.func17, Tryd.ntmps17
    go_wp2
    go_ret
    exact ⟨rfl, rfl⟩
  have q41 : ((c.toNat : Int) == 41) = false := c_ne (k := 41) (by omega) h41
  have H41 := Lib.hid (show (c == 41) = false from beq_eq_false_iff_ne.2 h41)
  clear h41
  by_cases h61 : c = 61
  · have q61 : ((c.toNat : Int) == 61) = true := c_yes (k := 61) (by omega) h61
    obtain rfl : r = true := by rw [HR.out, h61]; rfl
    clear h61
    go_enter Tryd.func17, Tryd.ntmps17
    go_wp2
    go_ret
    exact ⟨rfl, rfl⟩
  have q61 : ((c.toNat : Int) == 61) = false := c_ne (k := 61) (by omega) h61
  have H61 := Lib.hid (show (c == 61) = false from beq_eq_false_iff_ne.2 h61)
  clear h61
  by_cases h60 : c = 60
  · have q60 : ((c.toNat : Int) == 60) = true := c_yes (k := 60) (by omega) h60
    obtain rfl : r = true := by rw [HR.out, h60]; rfl
    clear h60
    go_enter Tryd.func17, Tryd.ntmps17
    go_wp2
    go_ret
    exact ⟨rfl, rfl⟩
  have q60 : ((c.toNat : Int) == 60) = false := c_ne (k := 60) (by omega) h60
  have H60 := Lib.hid (show (c == 60) = false from beq_eq_false_iff_ne.2 h60)
  clear h60
  by_cases h62 : c = 62
  · have q62 : ((c.toNat : Int) == 62) = true := c_yes (k := 62) (by omega) h62
    obtain rfl : r = true := by rw [HR.out, h62]; rfl
    clear h62
    go_enter Tryd.func17, Tryd.ntmps17
    go_wp2
    go_ret
    exact ⟨rfl, rfl⟩
  have q62 : ((c.toNat : Int) == 62) = false := c_ne (k := 62) (by omega) h62
  have H62 := Lib.hid (show (c == 62) = false from beq_eq_false_iff_ne.2 h62)
  clear h62
  obtain rfl : r = false := by rw [HR.out]; unfold sgn; rw [H44.out, H40.out, H41.out, H61.out, H60.out, H62.out]; decide
  go_enter Tryd.func17, Tryd.ntmps17
  go_wp2
  go_ret
  exact ⟨rfl, rfl⟩
theorem drop_cons {s : ByteArray} {i : Nat} (h : i < s.size) : (dat s).drop i = s[i] :: (dat s).drop (i + 1) := by
  have h1 : i < (dat s).length := h
  have h2 : (dat s).drop i = (dat s)[i] :: (dat s).drop (i + 1) := List.drop_eq_getElem_cons h1
  exact h2
theorem drop_get {s : ByteArray} {i j : Nat} (h : i + j < s.size) (h2 : j < ((dat s).drop i).length) : ((dat s).drop i)[j] = s[i + j] := by
  rw [List.getElem_drop]; rfl
set_option maxRecDepth 100000 in
set_option maxHeartbeats 16000000 in
theorem refend_q (s : ByteArray) (i : Nat) (w : World) (hs : s.size ≤ 1000000) (hi : i < s.size) (hc : s[i] = 34) (n : Nat) (hn : n = i + endR ((dat s).drop i)) : Calls Tryd.prog 20 #[.string s, .int .i64 (i : Int)] w fun e w' => e = .returned (.int .i64 (n : Int)) ∧ w = w' := by
  obtain ⟨z, hz⟩ : ∃ z, s.size = z := ⟨_, rfl⟩
  obtain ⟨r, hr⟩ : ∃ r, r = (dat s).drop (i + 1) := ⟨_, rfl⟩
  have hl : r.length = z - (i + 1) := by rw [hr, List.length_drop, dat_len, hz]
  have HN := Lib.hid (show n = i + min (2 + cnt notQ r) (z - i) by
    rw [hn, drop_cons hi, hc, ← hr]; unfold endR; simp only [if_true]; rw [hl]; omega)
  have HL := Lib.hid hl
  have HR := Lib.hid hr
  have hiz : i < z := by omega
  have hz9 : z ≤ 1000000 := by omega
  have hii : (i : Int) < (z : Int) := by omega
  have q34 : ((s[i].toNat : Int) == 34) = true := c_yes (k := 34) (by omega) hc
  have HC := Lib.hid (show isL s[i] = false by rw [hc]; decide)
  clear hn hl hr hc hs
  go_enter Tryd.func20, Tryd.ntmps20
  go_wp2_with fail
  refine (refletter_any s[i] _ false HC.out.symm).mono ?_
  rintro e w1 ⟨rfl, rfl⟩
  go_wp2_with fail
  go_loop [6] (fun k => ∃ j : Nat, k = .int .i64 ((i + 1 + j : Nat) : Int) ∧ i + 1 + j ≤ z ∧ j ≤ cnt notQ r) (fun k => z - (intOf k).toNat)
  case atStart => exact ⟨0, by go_num, by omega, Nat.zero_le _⟩
  case round =>
    obtain ⟨j, rfl, hj, hjc⟩ := hrel
    by_cases hlt : i + 1 + j < z
    · have hki : ((i + 1 + j : Nat) : Int) < (z : Int) := by omega
      have hks : i + 1 + j < s.size := by omega
      have HS := Lib.hid (cnt_step notQ r (k := j) (by rw [HL.out]; omega) hjc)
      have hg : r[j]'(by rw [HL.out]; omega) = s[i + 1 + j] := by
        have h := HR.out; subst h; exact drop_get hks _
      rw [hg] at HS
      obtain ⟨x, hx⟩ : ∃ x, x = s[i + 1 + j] := ⟨_, rfl⟩
      rw [← hx] at HS
      have HX := Lib.hid hx
      clear hg
      by_cases h34 : x = 34
      · have q : ((s[i + 1 + j].toNat : Int) == 34) = true := by rw [← hx]; exact c_yes (k := 34) (by omega) h34
        have q' : ((s[i + 1 + j].toNat : Int) != 34) = false := by rw [bne, q]; rfl
        have HJ := Lib.hid (show j = cnt notQ r by
          have h1 : ¬ j < cnt notQ r := fun h => by have := HS.out.1 h; rw [h34] at this; cases this
          omega)
        clear h34 hx
        go_wp2_with fail
        all_goals
          go_ret
          exact ⟨ret_int (by have := HN.out; have := HJ.out; omega), rfl⟩
      · have q : ((s[i + 1 + j].toNat : Int) == 34) = false := by rw [← hx]; exact c_ne (k := 34) (by omega) h34
        have q' : ((s[i + 1 + j].toNat : Int) != 34) = true := by rw [bne, q]; rfl
        have HJ := Lib.hid (show j + 1 ≤ cnt notQ r from HS.out.2 (by unfold notQ; rw [beq_eq_false_iff_ne.2 h34]; rfl))
        clear h34 hx
        go_wp2_with fail
        go_round
        case rel => exact ⟨j + 1, by go_num, by omega, HJ.out⟩
        case measure => simp [intOf]; omega
    · have hki : ¬ ((i + 1 + j : Nat) : Int) < (z : Int) := by omega
      have HJ := Lib.hid (show j = cnt notQ r by have := cnt_le notQ r; have := HL.out; omega)
      clear hlt
      go_wp2_with fail
      all_goals
        go_ret
        exact ⟨ret_int (by have := HN.out; have := HJ.out; omega), rfl⟩
set_option maxRecDepth 100000 in
set_option maxHeartbeats 16000000 in
theorem refend_w (s : ByteArray) (i : Nat) (w : World) (hs : s.size ≤ 1000000) (hi : i < s.size) (hc : s[i] ≠ 34) (hL : isL s[i] = true) (n : Nat) (hn : n = i + endR ((dat s).drop i)) : Calls Tryd.prog 20 #[.string s, .int .i64 (i : Int)] w fun e w' => e = .returned (.int .i64 (n : Int)) ∧ w = w' := by
  obtain ⟨z, hz⟩ : ∃ z, s.size = z := ⟨_, rfl⟩
  obtain ⟨r, hr⟩ : ∃ r, r = (dat s).drop (i + 1) := ⟨_, rfl⟩
  have hl : r.length = z - (i + 1) := by rw [hr, List.length_drop, dat_len, hz]
  have HN := Lib.hid (show n = i + 1 + cnt isW r by
    rw [hn, drop_cons hi, ← hr]; unfold endR; simp only []; rw [if_neg hc, hL]; simp; omega)
  have HL := Lib.hid hl
  have HR := Lib.hid hr
  have hiz : i < z := by omega
  have hz9 : z ≤ 1000000 := by omega
  have hii : (i : Int) < (z : Int) := by omega
  have q34 : ((s[i].toNat : Int) == 34) = false := c_ne (k := 34) (by omega) hc
  have HC := Lib.hid hL
  clear hn hl hr hc hs hL
  go_enter Tryd.func20, Tryd.ntmps20
  go_wp2_with fail
  refine (refletter_any s[i] _ true HC.out.symm).mono ?_
  rintro e w1 ⟨rfl, rfl⟩
  go_wp2_with fail
  go_loop [6, 7, 8] (fun k p q => ∃ j : Nat, k = .int .i64 ((i + 1 + j : Nat) : Int) ∧ i + 1 + j ≤ z ∧ j ≤ cnt isW r) (fun k _ _ => z - (intOf k).toNat)
  case atStart => exact ⟨0, by go_num, by omega, Nat.zero_le _⟩
  case round =>
    obtain ⟨j, rfl, hj, hjc⟩ := hrel
    by_cases hlt : i + 1 + j < z
    · have hki : ((i + 1 + j : Nat) : Int) < (z : Int) := by omega
      have hks : i + 1 + j < s.size := by omega
      have HS := Lib.hid (cnt_step isW r (k := j) (by rw [HL.out]; omega) hjc)
      have hg : r[j]'(by rw [HL.out]; omega) = s[i + 1 + j] := by
        have h := HR.out; subst h; exact drop_get hks _
      rw [hg] at HS
      obtain ⟨x, hx⟩ : ∃ x, s[i + 1 + j] = x := ⟨_, rfl⟩
      rw [hx] at HS
      obtain ⟨f, hf⟩ : ∃ f, f = isF x := ⟨_, rfl⟩
      obtain ⟨l, hl⟩ : ∃ l, l = isL x := ⟨_, rfl⟩
      obtain ⟨u, hu⟩ : ∃ u, u = (x == 95) := ⟨_, rfl⟩
      have HU := Lib.hid (show ((x.toNat : Int) == 95) = u by rw [hu]; exact (c_eq x 95 (by omega)).symm)
      have HP := Lib.hid (show isW x = (l || f || u) by unfold isW; rw [hl, hf, hu])
      have HF := Lib.hid hf
      have HLL := Lib.hid hl
      clear hg hf hl hu
      cases l <;> cases f <;> cases u <;> (
        have qu := HU.out
        go_wp2_with fail
        refine (refletter_any x _ _ HLL.out).mono ?_
        rintro e w1 ⟨rfl, rfl⟩
        go_wp2_with fail
        refine (reffigure_any x _ _ HF.out).mono ?_
        rintro e w1 ⟨rfl, rfl⟩
        go_wp2_with fail
        first
          | (go_round
             case rel => exact ⟨j + 1, by go_num, by omega, HS.out.2 (HP.out.trans (by rfl))⟩
             case measure => simp [intOf]; omega)
          | (go_ret
             exact ⟨ret_int (by
               have h1 : ¬ j < cnt isW r := fun h => by have h2 := HP.out.symm.trans (HS.out.1 h); cases h2
               have := HN.out; omega), rfl⟩))
    · have hki : ¬ ((i + 1 + j : Nat) : Int) < (z : Int) := by omega
      have HJ := Lib.hid (show j = cnt isW r by have := cnt_le isW r; have := HL.out; omega)
      clear hlt
      go_wp2_with fail
      go_ret
      exact ⟨ret_int (by have := HN.out; have := HJ.out; omega), rfl⟩
set_option maxRecDepth 100000 in
set_option maxHeartbeats 16000000 in
theorem refend_f (s : ByteArray) (i : Nat) (w : World) (hs : s.size ≤ 1000000) (hi : i < s.size) (hc : s[i] ≠ 34) (hL : isL s[i] = false) (n : Nat) (hn : n = i + endR ((dat s).drop i)) : Calls Tryd.prog 20 #[.string s, .int .i64 (i : Int)] w fun e w' => e = .returned (.int .i64 (n : Int)) ∧ w = w' := by
  obtain ⟨z, hz⟩ : ∃ z, s.size = z := ⟨_, rfl⟩
  obtain ⟨r, hr⟩ : ∃ r, r = (dat s).drop (i + 1) := ⟨_, rfl⟩
  have hl : r.length = z - (i + 1) := by rw [hr, List.length_drop, dat_len, hz]
  have HN := Lib.hid (show n = i + 1 + cnt isF r by
    rw [hn, drop_cons hi, ← hr]; unfold endR; simp only []; rw [if_neg hc, hL]; simp; omega)
  have HL := Lib.hid hl
  have HR := Lib.hid hr
  have hiz : i < z := by omega
  have hz9 : z ≤ 1000000 := by omega
  have hii : (i : Int) < (z : Int) := by omega
  have q34 : ((s[i].toNat : Int) == 34) = false := c_ne (k := 34) (by omega) hc
  have HC := Lib.hid hL
  clear hn hl hr hc hs hL
  go_enter Tryd.func20, Tryd.ntmps20
  go_wp2_with fail
  refine (refletter_any s[i] _ false HC.out.symm).mono ?_
  rintro e w1 ⟨rfl, rfl⟩
  go_wp2_with fail
  go_loop [6, 7, 8] (fun k p q => ∃ j : Nat, k = .int .i64 ((i + 1 + j : Nat) : Int) ∧ i + 1 + j ≤ z ∧ j ≤ cnt isF r) (fun k _ _ => z - (intOf k).toNat)
  case atStart => exact ⟨0, by go_num, by omega, Nat.zero_le _⟩
  case round =>
    obtain ⟨j, rfl, hj, hjc⟩ := hrel
    by_cases hlt : i + 1 + j < z
    · have hki : ((i + 1 + j : Nat) : Int) < (z : Int) := by omega
      have hks : i + 1 + j < s.size := by omega
      have HS := Lib.hid (cnt_step isF r (k := j) (by rw [HL.out]; omega) hjc)
      have hg : r[j]'(by rw [HL.out]; omega) = s[i + 1 + j] := by
        have h := HR.out; subst h; exact drop_get hks _
      rw [hg] at HS
      obtain ⟨x, hx⟩ : ∃ x, s[i + 1 + j] = x := ⟨_, rfl⟩
      rw [hx] at HS
      obtain ⟨f, hf⟩ : ∃ f, f = isF x := ⟨_, rfl⟩
      obtain ⟨l, hl⟩ : ∃ l, l = isL x := ⟨_, rfl⟩
      obtain ⟨u, hu⟩ : ∃ u, u = (x == 95) := ⟨_, rfl⟩
      have HU := Lib.hid (show ((x.toNat : Int) == 95) = u by rw [hu]; exact (c_eq x 95 (by omega)).symm)
      have HP := Lib.hid (show isF x = f by rw [hf])
      have HF := Lib.hid hf
      have HLL := Lib.hid hl
      clear hg hf hl hu
      cases l <;> cases f <;> cases u <;> (
        have qu := HU.out
        go_wp2_with fail
        refine (refletter_any x _ _ HLL.out).mono ?_
        rintro e w1 ⟨rfl, rfl⟩
        go_wp2_with fail
        refine (reffigure_any x _ _ HF.out).mono ?_
        rintro e w1 ⟨rfl, rfl⟩
        go_wp2_with fail
        first
          | (go_round
             case rel => exact ⟨j + 1, by go_num, by omega, HS.out.2 (HP.out.trans (by rfl))⟩
             case measure => simp [intOf]; omega)
          | (go_ret
             exact ⟨ret_int (by
               have h1 : ¬ j < cnt isF r := fun h => by have h2 := HP.out.symm.trans (HS.out.1 h); cases h2
               have := HN.out; omega), rfl⟩))
    · have hki : ¬ ((i + 1 + j : Nat) : Int) < (z : Int) := by omega
      have HJ := Lib.hid (show j = cnt isF r by have := cnt_le isF r; have := HL.out; omega)
      clear hlt
      go_wp2_with fail
      go_ret
      exact ⟨ret_int (by have := HN.out; have := HJ.out; omega), rfl⟩
theorem refend_any (s : ByteArray) (i : Nat) (w : World) (hs : s.size ≤ 1000000) (hi : i < s.size) (n : Nat) (hn : n = i + endR ((dat s).drop i)) : Calls Tryd.prog 20 #[.string s, .int .i64 (i : Int)] w fun e w' => e = .returned (.int .i64 (n : Int)) ∧ w = w' := by
  by_cases hc : s[i] = 34
  · exact refend_q s i w hs hi hc n hn
  · cases hL : isL s[i] with
    | true => exact refend_w s i w hs hi hc hL n hn
    | false => exact refend_f s i w hs hi hc hL n hn
end Go.Proofs.YtcpbjcemlkohkaaDoor
