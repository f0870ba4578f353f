/- A list's bytes, as the program makes them. -/
import Derived.Test.YtedldajlioeioaaPD
namespace Go.Proofs.Ytedldajlioeioaa
open Go.RowKit
set_option linter.unusedSimpArgs false
set_option linter.unusedVariables false
def MadeE (w : World) (xs : List Int) (e : Ending) (w' : World) : Prop :=
  ∃ A c, e = .returned (.tuple #[.slice A xs.length c, .int .i64 0]) ∧ Row w' A (xs.map (Value.int .u8)) ∧ xs.length ≤ c ∧ (A = none → c = 0) ∧ Below w.heap.size w w'
set_option maxRecDepth 100000 in
set_option maxHeartbeats 4000000 in
theorem encode_any (A : Option Addr) (n c : Nat) (L : List Int) (w : World) (hA : Row w A (L.map (Value.int .i64))) (hz : n = L.length) (hn : n ≤ 65536) (hL : ints L) :
    Calls Try.prog 9 #[.slice A n c] w (MadeE w (encZ L)) := by
  have HA := Lib.hid hA
  have HZ := Lib.hid hz
  have HL := Lib.hid hL
  cases L with
  | nil =>
    obtain rfl : n = 0 := hz
    clear hA hL
    go_enter Try.func9, Try.ntmps9
    go_wp2_with fail
    refine (int_any none 0 0 [] 0 _ (.inl rfl) (by omega) rfl (by omega) (by omega) (by omega)).mono ?_
    rw [List.nil_append]
    rintro e w1 ⟨g, cap, rfl, hcap, hown1, hB1⟩
    have HR := Lib.hid (MadeB.row hown1)
    have HB1 := Lib.hid hB1
    clear hown1 hB1
    go_wp2_with fail
    go_ret2
    exact ⟨_, cap, by show _ = Ending.returned (.tuple #[.slice _ (encV ((0 : Nat) : Int) ++ []).length cap, .int .i64 0]); rw [List.append_nil]; rfl, by show Row _ _ ((encV ((0 : Nat) : Int) ++ []).map _); rw [List.append_nil]; exact HR.out, by show (encV ((0 : Nat) : Int) ++ []).length ≤ cap; rw [List.append_nil]; exact hcap, (fun h => by cases h), HB1.out⟩
  | cons a l =>
    obtain ⟨L, hLL⟩ : ∃ L, L = a :: l := ⟨_, rfl⟩
    have hpos : 1 ≤ n := by rw [hz]; simp
    have hal : L[0]? = some a := by rw [hLL]; rfl
    have ha : i64 a := hL a (by simp)
    rw [← hLL] at HA HZ HL hz ⊢
    have HE := Lib.hid (show encZ L = encV (n : Int) ++ bodyZ a L by rw [hz, hLL]; rfl)
    obtain ⟨b, off, hA', hc0⟩ := HA.out.cell (i := 0) (by omega)
    have hL0 : L[0]'(by omega) = a := Option.some.inj ((List.getElem?_eq_getElem (by omega)).symm.trans hal)
    rw [hL0, Nat.add_zero] at hc0
    have HC0 := Lib.hid hc0
    have ha1 := ha.1
    have ha2 := ha.2
    have HOL := Lib.hid (off_length L)
    clear hL0 hc0 hz hA hL hLL hal ha
    subst hA'
    obtain ⟨B, hB⟩ : ∃ B, B = leastZ (stepsZ L) := ⟨_, rfl⟩
    obtain ⟨O, hO⟩ : ∃ O, O = offZ L := ⟨_, rfl⟩
    obtain ⟨W, hW⟩ : ∃ W, W = widthN O := ⟨_, rfl⟩
    have hBi : i64 B := by rw [hB]; exact least_ints (steps_ints L)
    have hB1 := hBi.1
    have hB2 := hBi.2
    have HOS := Lib.hid (show small O by rw [hO]; exact off_small L)
    have hW64 : W ≤ 64 := by rw [hW]; exact widthN_le64 O
    have HBB := Lib.hid hB
    have HOO := Lib.hid hO
    have HWW := Lib.hid hW
    have hn0 : ((n : Int) == 0) = false := by simp; omega
    have hn1 : ¬ (n : Int) = 0 := by omega
    have hn6 : (n : Int) ≤ 65536 := by omega
    clear hB hO hW hBi
    go_enter Try.func9, Try.ntmps9
    go_wp2_with fail
    refine (int_any none 0 0 [] (n : Int) _ (.inl rfl) (by omega) rfl (by omega) (by omega) (by omega)).mono ?_
    rw [List.nil_append]
    rintro e w1 ⟨g, cap, rfl, hcap, hown1, hB1⟩
    have HR1 := Lib.hid (MadeB.row hown1)
    have HO1 := Lib.hid hown1
    have HB1 := Lib.hid hB1
    clear hown1 hB1
    obtain ⟨E1, hE1⟩ : ∃ E, E = encV (n : Int) := ⟨_, rfl⟩
    have hE1l : E1.length ≤ 10 := by rw [hE1]; exact (enc_bd _).2
    rw [← hE1] at HR1 HO1 HE hcap ⊢
    obtain ⟨l1, hl1⟩ : ∃ l1, l1 = E1.length := ⟨_, rfl⟩
    rw [← hl1] at HO1 hcap hE1l ⊢
    have HL1 := Lib.hid hl1
    clear hE1 hl1
    go_wp2_with fail
    refine (offsets_any (some ⟨b, off, none⟩) n c L _ (HA.out.keep (Nat.le_refl _) HB1.out) HZ.out (by omega) HL.out).mono ?_
    rintro e w2 ⟨A2, c2, rfl, hr2, hc2, hn2, hB2⟩
    rw [← HBB.out, ← HZ.out]
    rw [← HOO.out] at hr2
    have HR2 := Lib.hid hr2
    have HO2 := Lib.hid (own_below HO1.out hB2)
    have HB2 := Lib.hid (bthen HB1.out hB2)
    have HOL2 := Lib.hid (show n - 1 = O.length by rw [HOO.out, HOL.out, HZ.out])
    clear hr2 hB2 hc2 hn2
    go_wp2_with fail
    refine (width_any A2 (n - 1) c2 O _ HR2.out (by omega) HOL2.out HOS.out).mono ?_
    rintro e w3 ⟨rfl, rfl⟩
    rw [← HWW.out]
    go_wp2_with fail
    refine (pack_good A2 (n - 1) c2 O W _ HR2.out (by omega) HOL2.out HOS.out hW64 (by rw [HWW.out]; exact Nat.le_refl _)).mono ?_
    rintro e w4 ⟨g4, rfl, hg4, hk4, hB4⟩
    obtain ⟨P, hP⟩ : ∃ P, P = packL O W := ⟨_, rfl⟩
    rw [← hP] at hk4 ⊢
    have HR4 := Lib.hid (u8s_row hk4)
    have HO4 := Lib.hid (own_below HO2.out hB4)
    have HB4 := Lib.hid (bthen HB2.out hB4)
    have hc4 := (HB4.out.cell (p := ⟨b, off, none⟩) (lt_of_cell HC0.out)).trans HC0.out
    have HP := Lib.hid hP
    have hPl : P.length ≤ 1000000 := by
      rw [hP, packL_length, ← HOL2.out]; unfold sizeN
      have := Nat.mul_le_mul (show n - 1 ≤ 65536 by omega) hW64
      omega
    obtain ⟨lp, hlp⟩ : ∃ lp, lp = P.length := ⟨_, rfl⟩
    rw [← hlp] at hPl ⊢
    have HLP := Lib.hid hlp
    clear hk4 hB4 hP hlp hg4
    have i0 : ∀ w, (Instr.index 44 (.agg #[.int .i64 a, .int .i64 B, .int .i64 (W : Int)]) (.int .i64 0)).run Try.prog w = .ok (.int .i64 a) w := fun _ => by kernel_rfl
    have i1 : ∀ w, (Instr.index 44 (.agg #[.int .i64 a, .int .i64 B, .int .i64 (W : Int)]) (.int .i64 1)).run Try.prog w = .ok (.int .i64 B) w := fun _ => by kernel_rfl
    have i2 : ∀ w, (Instr.index 44 (.agg #[.int .i64 a, .int .i64 B, .int .i64 (W : Int)]) (.int .i64 2)).run Try.prog w = .ok (.int .i64 (W : Int)) w := fun _ => by kernel_rfl
    go_wp2_with fail
    go_loopw [4, 43] (fun v i wr => ∃ (k m : Nat) (X : List Int), k ≤ 3 ∧ i = .int .i64 k ∧ m ≤ 10 + 10 * k ∧ Hid (m = X.length) ∧ Hid ((k = 0 → X = E1) ∧ (k = 1 → X = E1 ++ encV a) ∧ (k = 2 → X = E1 ++ encV a ++ encV B) ∧ (k = 3 → X = E1 ++ encV a ++ encV B ++ encV (W : Int))) ∧ Hid (wr.ownsRow w.heap.size 5 1 v m (X.map (Value.int .u8))) ∧ Hid (Below w4.heap.size w4 wr)) (fun _ i _ => 3 - (intOf i).toNat)
    case atStart => exact ⟨0, l1, E1, by omega, rfl, by omega, HL1, Lib.hid ⟨fun _ => rfl, (fun h => by omega), (fun h => by omega), (fun h => by omega)⟩, HO4, Lib.hid (Below.refl _ _)⟩
    case round =>
      obtain ⟨k, m, X, hk, rfl, hm, HMX, HX, HO, HBR⟩ := hrel
      have key : ∀ (x : Int) (v : Value) (A5 : Option Addr) (c5 : Nat), i64 x → True := fun _ _ _ _ _ => trivial
      clear key
      rcases (show k = 0 ∨ k = 1 ∨ k = 2 ∨ k = 3 by omega) with rfl | rfl | rfl | rfl
      · have HXE := Lib.hid (HX.out.1 rfl)
        obtain ⟨A5, c5, rfl, hr5, hc5, hn5⟩ := own_slice HO.out
        have HR5 := Lib.hid hr5
        clear hr5 hn5 HX i1 i2
        go_wp2_with fail
        refine (int_any A5 m c5 X a _ HR5.out (by omega) HMX.out hc5 ha1 ha2).mono ?_
        rintro e w6 ⟨g6, c6, rfl, hc6, ho6, hB6⟩
        have HO6 := Lib.hid (owns_lower ho6 (Nat.le_trans HB4.out.size HBR.out.size))
        have HB6 := Lib.hid (bthen HBR.out hB6)
        obtain ⟨m6, hm6⟩ : ∃ m6, m6 = (X ++ encV a).length := ⟨_, rfl⟩
        rw [← hm6] at HO6 ⊢
        have HM6 := Lib.hid hm6
        have hl6 : m6 ≤ 20 := by rw [hm6, List.length_append]; have := (enc_bd a).2; have := HMX.out; omega
        clear ho6 hB6 hm6
        go_wp2_with fail
        go_roundw
        case rel => exact ⟨1, m6, X ++ encV a, by omega, by go_num, hl6, HM6, Lib.hid ⟨(fun h => by omega), (fun _ => by rw [HXE.out]), (fun h => by omega), (fun h => by omega)⟩, HO6, HB6⟩
        case measure => simp [intOf]
      · have HXE := Lib.hid (HX.out.2.1 rfl)
        obtain ⟨A5, c5, rfl, hr5, hc5, hn5⟩ := own_slice HO.out
        have HR5 := Lib.hid hr5
        clear hr5 hn5 HX i0 i2
        go_wp2_with fail
        refine (int_any A5 m c5 X B _ HR5.out (by omega) HMX.out hc5 hB1 hB2).mono ?_
        rintro e w6 ⟨g6, c6, rfl, hc6, ho6, hB6⟩
        have HO6 := Lib.hid (owns_lower ho6 (Nat.le_trans HB4.out.size HBR.out.size))
        have HB6 := Lib.hid (bthen HBR.out hB6)
        obtain ⟨m6, hm6⟩ : ∃ m6, m6 = (X ++ encV B).length := ⟨_, rfl⟩
        rw [← hm6] at HO6 ⊢
        have HM6 := Lib.hid hm6
        have hl6 : m6 ≤ 30 := by rw [hm6, List.length_append]; have := (enc_bd B).2; have := HMX.out; omega
        clear ho6 hB6 hm6
        go_wp2_with fail
        go_roundw
        case rel => exact ⟨2, m6, X ++ encV B, by omega, by go_num, hl6, HM6, Lib.hid ⟨(fun h => by omega), (fun h => by omega), (fun _ => by rw [HXE.out]), (fun h => by omega)⟩, HO6, HB6⟩
        case measure => simp [intOf]
      · have HXE := Lib.hid (HX.out.2.2.1 rfl)
        obtain ⟨A5, c5, rfl, hr5, hc5, hn5⟩ := own_slice HO.out
        have HR5 := Lib.hid hr5
        clear hr5 hn5 HX i0 i1
        go_wp2_with fail
        refine (int_any A5 m c5 X (W : Int) _ HR5.out (by omega) HMX.out hc5 (by omega) (by omega)).mono ?_
        rintro e w6 ⟨g6, c6, rfl, hc6, ho6, hB6⟩
        have HO6 := Lib.hid (owns_lower ho6 (Nat.le_trans HB4.out.size HBR.out.size))
        have HB6 := Lib.hid (bthen HBR.out hB6)
        obtain ⟨m6, hm6⟩ : ∃ m6, m6 = (X ++ encV (W : Int)).length := ⟨_, rfl⟩
        rw [← hm6] at HO6 ⊢
        have HM6 := Lib.hid hm6
        have hl6 : m6 ≤ 40 := by rw [hm6, List.length_append]; have := (enc_bd (W : Int)).2; have := HMX.out; omega
        clear ho6 hB6 hm6
        go_wp2_with fail
        go_roundw
        case rel => exact ⟨3, m6, X ++ encV (W : Int), by omega, by go_num, hl6, HM6, Lib.hid ⟨(fun h => by omega), (fun h => by omega), (fun h => by omega), (fun _ => by rw [HXE.out])⟩, HO6, HB6⟩
        case measure => simp [intOf]
      · have HXE := Lib.hid (HX.out.2.2.2 rfl)
        have HR6 := Lib.hid (HR4.out.keep (Nat.le_refl _) HBR.out)
        have HB6 := Lib.hid (bthen HB4.out HBR.out)
        clear HX i0 i1 i2 hc4
        go_wp2_with (at_builtin; refine append_bytes rfl _ _ rfl w.heap.size u4 rfl m X HO.out (some ⟨g4, 0, none⟩) lp lp P rfl HR6.out HLP.out (fun h => by cases h) (by omega) HB6.out.size ?_)
        intro v7 w7 hown7 hB7
        rw [← List.map_append] at hown7
        have hEE : X ++ P = encZ L := by
          rw [HXE.out, HE.out, HP.out, HOO.out, HWW.out]
          unfold bodyZ
          rw [← HOO.out, ← HBB.out]; simp
        rw [hEE] at hown7
        have HLN := Lib.hid (show m + lp = (encZ L).length by rw [← hEE, List.length_append, ← HMX.out, ← HLP.out])
        have HO7 := Lib.hid hown7
        have HB7 := Lib.hid (HB6.out.trans hB7)
        clear hown7 hB7 hEE
        go_wp2_with fail
        go_ret2
        obtain ⟨A8, c8, rfl, hr8, hc8, hn8⟩ := own_slice HO7.out
        exact ⟨A8, c8, by rw [← HLN.out]; rfl, hr8, by rw [← HLN.out]; exact hc8, hn8, HB7.out⟩
end Go.Proofs.Ytedldajlioeioaa
