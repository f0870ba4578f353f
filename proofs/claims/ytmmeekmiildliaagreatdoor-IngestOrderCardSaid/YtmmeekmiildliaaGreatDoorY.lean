/- Which of two texts, numbers, lists and rows is below. -/
import Derived.Test.YtmmeekmiildliaaGreatDoorMA
import Derived.Sort.Walk0
namespace Go.Proofs.YtmmeekmiildliaaGreatDoor
open Go.RowKit
set_option linter.unusedSimpArgs false
set_option linter.unusedVariables false
def dat (s : ByteArray) : List UInt8 := s.data.toList
theorem dat_inj {a b : ByteArray} (h : dat a = dat b) : a = b := by
  cases a; cases b; congr 1; exact Array.toList_inj.1 h
def ltT (a b : ByteArray) : Prop := dat a < dat b
instance (a b : ByteArray) : Decidable (ltT a b) := by unfold ltT; infer_instance
theorem lt_irr (a : ByteArray) : ¬ ltT a a := List.lt_irrefl _
theorem lt_tr {a b c : ByteArray} (h : ltT a b) (k : ltT b c) : ltT a c := List.lt_trans h k
theorem lt_asy {a b : ByteArray} (h : ltT a b) : ¬ ltT b a := fun k => lt_irr a (lt_tr h k)
theorem lt_tri (a b : ByteArray) : ltT a b ∨ a = b ∨ ltT b a := by
  by_cases h : ltT a b
  · exact .inl h
  · by_cases k : ltT b a
    · exact .inr (.inr k)
    · exact .inr (.inl (dat_inj (List.le_antisymm (List.not_lt.1 k) (List.not_lt.1 h))))
def rising (D : List ByteArray) : Prop := D.Pairwise ltT
theorem less_bool (a b : ByteArray) : Op.bytesLess a.toList b.toList = decide (ltT a b) := by
  rw [bytesLess_eq, ByteArray.toList_eq, ByteArray.toList_eq]; rfl
def cmpI (a b : Int) : Int := if a < b then -1 else if b < a then 1 else 0
def cmpT (a b : ByteArray) : Int := if ltT a b then -1 else if ltT b a then 1 else 0
def cmpL : List ByteArray → List ByteArray → Int
  | [], [] => 0
  | [], _ :: _ => -1
  | _ :: _, [] => 1
  | a :: l, b :: m => if cmpT a b = 0 then cmpL l m else cmpT a b
set_option maxRecDepth 100000 in
set_option maxHeartbeats 8000000 in
theorem nanI_any (x : Int) (w : World) : Calls Tryz.prog 101 #[.int .i64 x] w fun e w' => e = .returned (.bool false) ∧ w = w' := by
  go_enter Tryz.func101, Tryz.ntmps101
  go_wp2
  go_ret
  exact ⟨by simp, rfl⟩
set_option maxRecDepth 100000 in
set_option maxHeartbeats 8000000 in
theorem nanT_any (x : ByteArray) (w : World) : Calls Tryz.prog 127 #[.string x] w fun e w' => e = .returned (.bool false) ∧ w = w' := by
  go_enter Tryz.func127, Tryz.ntmps127
  go_wp2
  go_ret
  exact ⟨by simp, rfl⟩
set_option maxRecDepth 100000 in
set_option maxHeartbeats 8000000 in
theorem cmpI_any (a b : Int) (w : World) : Calls Tryz.prog 70 #[.int .i64 a, .int .i64 b] w fun e w' => e = .returned (.int .i64 (cmpI a b)) ∧ w = w' := by
  by_cases h1 : a < b
  · have hr : cmpI a b = -1 := by unfold cmpI; rw [if_pos h1]
    rw [hr]
    clear hr
    go_enter Tryz.func70, Tryz.ntmps70
    go_wp2_with fail
    refine (nanI_any a _).mono ?_
    rintro e w1 ⟨rfl, rfl⟩
    go_wp2_with fail
    refine (nanI_any b _).mono ?_
    rintro e w1 ⟨rfl, rfl⟩
    go_wp2_with fail
    go_ret
    exact ⟨rfl, rfl⟩
  · by_cases h2 : b < a
    · have hr : cmpI a b = 1 := by unfold cmpI; rw [if_neg h1, if_pos h2]
      rw [hr]
      clear hr
      go_enter Tryz.func70, Tryz.ntmps70
      go_wp2_with fail
      refine (nanI_any a _).mono ?_
      rintro e w1 ⟨rfl, rfl⟩
      go_wp2_with fail
      refine (nanI_any b _).mono ?_
      rintro e w1 ⟨rfl, rfl⟩
      go_wp2_with fail
      go_ret
      exact ⟨rfl, rfl⟩
    · have hr : cmpI a b = 0 := by unfold cmpI; rw [if_neg h1, if_neg h2]
      rw [hr]
      clear hr
      go_enter Tryz.func70, Tryz.ntmps70
      go_wp2_with fail
      refine (nanI_any a _).mono ?_
      rintro e w1 ⟨rfl, rfl⟩
      go_wp2_with fail
      refine (nanI_any b _).mono ?_
      rintro e w1 ⟨rfl, rfl⟩
      go_wp2_with fail
      go_ret
      exact ⟨rfl, rfl⟩
set_option maxRecDepth 100000 in
set_option maxHeartbeats 8000000 in
theorem cmpT_any (a b : ByteArray) (w : World) : Calls Tryz.prog 102 #[.string a, .string b] w fun e w' => e = .returned (.int .i64 (cmpT a b)) ∧ w = w' := by
  have l1 := less_bool a b
  have l2 := less_bool b a
  by_cases h1 : ltT a b
  · have hr : cmpT a b = -1 := by unfold cmpT; rw [if_pos h1]
    rw [hr]
    rw [decide_eq_true h1] at l1
    clear hr l2
    go_enter Tryz.func102, Tryz.ntmps102
    go_wp2_with fail
    refine (nanT_any _ _).mono ?_
    rintro e w1 ⟨rfl, rfl⟩
    go_wp2_with fail
    refine (nanT_any _ _).mono ?_
    rintro e w1 ⟨rfl, rfl⟩
    go_wp2_with fail
    go_ret
    exact ⟨rfl, rfl⟩
  · rw [decide_eq_false h1] at l1
    by_cases h2 : ltT b a
    · have hr : cmpT a b = 1 := by unfold cmpT; rw [if_neg h1, if_pos h2]
      rw [hr]
      rw [decide_eq_true h2] at l2
      have l3 : (a.toList == b.toList) = false := str_ne (fun e => lt_irr b (by rw [e] at h2; exact h2))
      clear hr
      go_enter Tryz.func102, Tryz.ntmps102
      go_wp2_with fail
      refine (nanT_any _ _).mono ?_
      rintro e w1 ⟨rfl, rfl⟩
      go_wp2_with fail
      refine (nanT_any _ _).mono ?_
      rintro e w1 ⟨rfl, rfl⟩
      go_wp2_with fail
      go_ret
      exact ⟨rfl, rfl⟩
    · have hr : cmpT a b = 0 := by unfold cmpT; rw [if_neg h1, if_neg h2]
      rw [hr]
      rw [decide_eq_false h2] at l2
      obtain rfl : a = b := by rcases lt_tri a b with h | h | h; exact absurd h h1; exact h; exact absurd h h2
      clear hr
      go_enter Tryz.func102, Tryz.ntmps102
      go_wp2_with fail
      refine (nanT_any _ _).mono ?_
      rintro e w1 ⟨rfl, rfl⟩
      go_wp2_with fail
      refine (nanT_any _ _).mono ?_
      rintro e w1 ⟨rfl, rfl⟩
      go_wp2_with fail
      go_ret
      exact ⟨rfl, rfl⟩
theorem cmpT_zero {a b : ByteArray} : cmpT a b = 0 ↔ a = b := by
  unfold cmpT
  constructor
  · intro h
    rcases lt_tri a b with h1 | h1 | h1
    · rw [if_pos h1] at h; cases h
    · exact h1
    · rw [if_neg (lt_asy h1), if_pos h1] at h; cases h
  · rintro rfl; rw [if_neg (lt_irr _), if_neg (lt_irr _)]
theorem cmpL_drop (L M : List ByteArray) (k : Nat) (h : L.take k = M.take k) (h1 : k ≤ L.length) (h2 : k ≤ M.length) : cmpL L M = cmpL (L.drop k) (M.drop k) := by
  induction k generalizing L M with
  | zero => rfl
  | succ k ih =>
    match L, M, h1, h2 with
    | a :: L, b :: M, h1, h2 =>
      rw [List.take_succ_cons, List.take_succ_cons] at h
      obtain ⟨e, h3⟩ := List.cons.inj h
      subst e
      rw [cmpL, if_pos (cmpT_zero.2 rfl)]
      exact ih L M h3 (by simpa using h1) (by simpa using h2)
set_option maxRecDepth 100000 in
set_option maxHeartbeats 8000000 in
theorem or_any (A : Option Addr) (c : Nat) (a b : Int) (w : World) (hA : Row w A [.int .i64 a, .int .i64 b]) : Calls Tryz.prog 69 #[.slice A 2 c] w fun e w' => e = .returned (.int .i64 (if a = 0 then b else a)) ∧ w = w' := by
  rcases hA with h | ⟨bb, off, rfl, hc⟩
  · cases h
  have c0 : w.cell? ⟨bb, off, none⟩ = some (.int .i64 a) := hc 0 _ rfl
  have c1 : w.cell? ⟨bb, off + 1, none⟩ = some (.int .i64 b) := hc 1 _ rfl
  clear hc
  by_cases h0 : a = 0
  · subst h0
    rw [if_pos rfl]
    by_cases h1 : b = 0
    · subst h1
      go_enter Tryz.func69, Tryz.ntmps69
      go_wp2_with fail
      go_loop [2, 5, 8] (fun x y i => ∃ k : Nat, i = .int .i64 (k : Int) ∧ k ≤ 2) (fun _ _ i => 2 - (intOf i).toNat)
      case atStart => exact ⟨0, rfl, by omega⟩
      case round =>
        obtain ⟨k, rfl, hk⟩ := hrel
        match k, hk with
        | 0, _ =>
          go_wp2_with fail
          go_round
          case rel => exact ⟨1, by go_num, by omega⟩
          case measure => simp [intOf]
        | 1, _ =>
          go_wp2_with fail
          go_round
          case rel => exact ⟨2, by go_num, by omega⟩
          case measure => simp [intOf]
        | 2, _ =>
          go_wp2_with fail
          go_ret
          exact ⟨rfl, rfl⟩
    · have k1 : (b == 0) = false := beq_eq_false_iff_ne.2 h1
      clear h1
      go_enter Tryz.func69, Tryz.ntmps69
      go_wp2_with fail
      go_loop [2, 5, 8] (fun x y i => ∃ k : Nat, i = .int .i64 (k : Int) ∧ k ≤ 1) (fun _ _ i => 2 - (intOf i).toNat)
      case atStart => exact ⟨0, rfl, by omega⟩
      case round =>
        obtain ⟨k, rfl, hk⟩ := hrel
        match k, hk with
        | 0, _ =>
          go_wp2_with fail
          go_round
          case rel => exact ⟨1, by go_num, by omega⟩
          case measure => simp [intOf]
        | 1, _ =>
          go_wp2_with fail
          go_ret
          exact ⟨rfl, rfl⟩
  · rw [if_neg h0]
    have k1 : (a == 0) = false := beq_eq_false_iff_ne.2 h0
    clear h0
    go_enter Tryz.func69, Tryz.ntmps69
    go_wp2_with fail
    go_loop [2, 5, 8] (fun x y i => i = .int .i64 0) (fun _ _ i => 2 - (intOf i).toNat)
    case atStart => rfl
    case round =>
      subst hrel
      go_wp2_with fail
      go_ret
      exact ⟨rfl, rfl⟩
set_option maxRecDepth 100000 in
set_option maxHeartbeats 8000000 in
theorem cmpL_any (A B : Option Addr) (n c m d : Nat) (L M : List ByteArray) (w : World) (hA : Row w A (texts L)) (hB : Row w B (texts M)) (hn : n = L.length) (hm : m = M.length) (hn2 : n ≤ 9223372036854775807) (hm2 : m ≤ 9223372036854775807) :
    Calls Tryz.prog 71 #[.slice A n c, .slice B m d] w fun e w' => e = .returned (.int .i64 (cmpL L M)) ∧ w = w' := by
  have HA := Lib.hid hA
  have HB := Lib.hid hB
  have HN := Lib.hid hn
  have HM := Lib.hid hm
  clear hA hB hn hm
  go_enter Tryz.func71, Tryz.ntmps71
  go_wp2_with fail
  go_loop [4, 5, 6, 7, 8, 11] (fun a4 a5 a6 a7 a8 i => ∃ k : Nat, i = .int .i64 (k : Int) ∧ k ≤ n ∧ k ≤ m ∧ Hid (L.take k = M.take k)) (fun _ _ _ _ _ i => n - (intOf i).toNat)
  case atStart => exact ⟨0, rfl, by omega, by omega, Lib.hid rfl⟩
  case round =>
    obtain ⟨k, rfl, hk, hkm, HT⟩ := hrel
    have HD := Lib.hid (cmpL_drop L M k HT.out (by have := HN.out; omega) (by have := HM.out; omega))
    by_cases hlt : k < n
    · have hki : (k : Int) < (n : Int) := by omega
      have hk0 : (0 : Int) ≤ (k : Int) := by omega
      have hkL : k < L.length := by have := HN.out; omega
      obtain ⟨b1, o1, rfl, x0⟩ := text_cell HA.out hkL
      obtain ⟨x, hx⟩ : ∃ x, x = L[k] := ⟨_, rfl⟩
      rw [← hx] at x0
      have HX := Lib.hid hx
      clear hx
      by_cases hlm : k < m
      · have hkm2 : (k : Int) < (m : Int) := by omega
        have hkM : k < M.length := by have := HM.out; omega
        obtain ⟨b2, o2, rfl, y0⟩ := text_cell HB.out hkM
        obtain ⟨y, hy⟩ : ∃ y, y = M[k] := ⟨_, rfl⟩
        rw [← hy] at y0
        have HY := Lib.hid hy
        have HDD := Lib.hid (show cmpL L M = if cmpT x y = 0 then cmpL (L.drop (k + 1)) (M.drop (k + 1)) else cmpT x y by
          rw [HD.out, List.drop_eq_getElem_cons hkL, List.drop_eq_getElem_cons hkM, cmpL, ← HX.out, ← HY.out])
        obtain ⟨z, hz⟩ : ∃ z, z = cmpT x y := ⟨_, rfl⟩
        have HZ := Lib.hid hz
        clear hy hlt hlm hz
        by_cases h0 : z = 0
        · have k1 : (z == 0) = true := beq_iff_eq.2 h0
          have hxy : x = y := cmpT_zero.1 (by rw [← HZ.out]; exact h0)
          have HE := Lib.hid (show L.take (k + 1) = M.take (k + 1) by
            rw [take_snoc L k hkL, take_snoc M k hkM, HT.out, ← HX.out, ← HY.out, hxy])
          clear hxy
          clear h0
          go_wp2_with fail
          refine (cmpT_any x y _).mono ?_
          rw [← HZ.out]
          rintro e w1 ⟨rfl, rfl⟩
          go_wp2_with fail
          go_round
          case rel => exact ⟨k + 1, by go_num, by omega, by omega, HE⟩
          case measure => simp [intOf]; omega
        · have k1 : (z == 0) = false := beq_eq_false_iff_ne.2 h0
          have HF := Lib.hid (show cmpL L M = z by rw [HDD.out, if_neg (by rw [← HZ.out]; exact h0), HZ.out])
          clear h0
          go_wp2_with fail
          refine (cmpT_any x y _).mono ?_
          rw [← HZ.out]
          rintro e w1 ⟨rfl, rfl⟩
          go_wp2_with fail
          go_ret
          exact ⟨ret_int HF.out.symm, rfl⟩
      · have hkm2 : (m : Int) ≤ (k : Int) := by omega
        have HF := Lib.hid (show cmpL L M = 1 by
          rw [HD.out, List.drop_eq_getElem_cons hkL, show M.drop k = [] from List.drop_eq_nil_of_le (by have := HM.out; omega)]; rfl)
        clear hlt hlm
        go_wp2_with fail
        go_ret
        exact ⟨ret_int HF.out.symm, rfl⟩
    · have hki : ¬ (k : Int) < (n : Int) := by omega
      by_cases hnm : n < m
      · have hq : (n : Int) < (m : Int) := by omega
        have HF := Lib.hid (show cmpL L M = -1 by
          rw [HD.out, show L.drop k = [] from List.drop_eq_nil_of_le (by have := HN.out; omega), List.drop_eq_getElem_cons (by have := HM.out; omega)]; rfl)
        clear hlt hnm
        go_wp2_with fail
        go_ret
        exact ⟨ret_int HF.out.symm, rfl⟩
      · have hq : ¬ (n : Int) < (m : Int) := by omega
        have HF := Lib.hid (show cmpL L M = 0 by
          rw [HD.out, show L.drop k = [] from List.drop_eq_nil_of_le (by have := HN.out; omega), show M.drop k = [] from List.drop_eq_nil_of_le (by have := HM.out; omega)]; rfl)
        clear hlt hnm
        go_wp2_with fail
        go_ret
        exact ⟨ret_int HF.out.symm, rfl⟩
end Go.Proofs.YtmmeekmiildliaaGreatDoor
