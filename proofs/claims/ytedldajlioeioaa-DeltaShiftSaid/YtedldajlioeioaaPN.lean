/- DeltaSmall: its walk. -/
import Derived.Test.YtedldajlioeioaaPL
import Derived.Maps.AppendAt
namespace Go.Proofs.Ytedldajlioeioaa
open Go.RowKit
set_option linter.unusedSimpArgs false
set_option linter.unusedVariables false
/-- Two lists that lie in no block together. -/
def Ap (v u : Value) : Prop := ∀ g, v.ownBlock = some g → u.ownBlock ≠ some g
theorem Ap.symm {v u : Value} (h : Ap v u) : Ap u v := fun g h1 h2 => h g h2 h1
theorem Ap.ne {v u : Value} (h : Ap v u) : u.ownBlock = none ∨ u.ownBlock ≠ v.ownBlock := by
  cases e : u.ownBlock with
  | none => exact .inl rfl
  | some g => exact .inr (fun e2 => h g e2.symm e)
theorem Ap.step {w : World} {B n : Nat} {e : TypeId} {size : Nat} {xs : List Value} {v v' u : Value} (h : Ap v u) (hu : w.ownsRow B e size u n xs) (hr : v'.ownBlock = v.ownBlock ∨ v'.ownBlock = some w.heap.size) : Ap v' u := fun g h1 h2 => by
  rcases hr with hr | hr
  · rw [hr] at h1; exact h g h1 h2
  · rw [hr] at h1; cases h1
    have := (hu.lt _ h2).2
    omega
theorem enc_small {n : Nat} (h : n ≤ 300) : (encV (n : Int)).length ≤ 2 := by
  rw [encV, encI_length, foldZ, if_neg (by omega)]
  have h1 : (2 * (n : Int)).toNat = 2 * n := by omega
  rw [h1]
  unfold groupsZ
  have h2 : Lib.bitLen (2 * n) ≤ 10 := (bitLen_iff (by omega) 10).2 (by omega)
  omega
theorem small_len {l : List Int} (hl : l.length ≤ 300) {W : Nat} (hW : ∀ x ∈ offZ l, x < 2 ^ W) : (encZ l).length ≤ 24 + (W * l.length + 7) / 8 := by
  have h1 := enc_small hl
  cases l with
  | nil =>
    have e : encZ [] = encV (([] : List Int).length : Int) ++ [] := rfl
    rw [e, List.append_nil]; omega
  | cons a l =>
    have e : encZ (a :: l) = encV ((a :: l).length : Int) ++ bodyZ a (a :: l) := rfl
    have h2 := (enc_bd a).2
    have h3 := (enc_bd (leastZ (stepsZ (a :: l)))).2
    have h5 : widthN (offZ (a :: l)) ≤ W := (widthN_le (off_small _) W).2 hW
    have h4 := enc_small (n := widthN (offZ (a :: l))) (by have := widthN_le64 (offZ (a :: l)); omega)
    have h6 : (packL (offZ (a :: l)) (widthN (offZ (a :: l)))).length ≤ (W * (a :: l).length + 7) / 8 := by
      rw [packL_length, off_length]; unfold sizeN
      have h7 : ((a :: l).length - 1) * widthN (offZ (a :: l)) ≤ W * (a :: l).length := by
        rw [Nat.mul_comm W]; exact Nat.mul_le_mul (by omega) h5
      omega
    rw [e, bodyZ]
    simp only [List.length_append]
    omega
theorem and31 (x : Nat) (h : x < 18446744073709551616) : bits .and .u64 (x : Int) 31 = ((x % 32 : Nat) : Int) := by
  have h1 := u64_and_nat x 31 h (by omega)
  rw [show ((31 : Nat) : Int) = 31 from rfl] at h1
  rw [h1, show x &&& 31 = x % 32 from Nat.and_two_pow_sub_one_eq_mod (x := x) (n := 5)]
def stepD (O : List Nat) (i : Nat) : Int := ((O.getD i 0 % 32 : Nat) : Int)
theorem stepD_bd (O : List Nat) (i : Nat) : 0 ≤ stepD O i ∧ stepD O i ≤ 31 := by unfold stepD; omega
set_option maxRecDepth 100000 in
set_option maxHeartbeats 4000000 in
theorem small_walk (f s : Int) (A : Option Addr) (n c : Nat) (O : List Nat) (w : World) (hf : i64 f) (hs : i64 s) (hA : Row w A (u64s O)) (hz : n = O.length) (hO : small O) (hn9 : n ≤ 9223372036854775807) :
    Calls Try.prog 6 #[.int .i64 f, .int .i64 s, .slice A n c] w fun e w' => e = .returned (.bool true) ∧ Below w.heap.size w w' := by
  obtain ⟨i0, hi0, hz0, hz1, hz2⟩ := info_parts Try.info3
  have HA := Lib.hid hA
  have HZ := Lib.hid hz
  have HO := Lib.hid hO
  have hf1 := hf.1
  have hf2 := hf.2
  have hs1 := hs.1
  have hs2 := hs.2
  obtain ⟨U, hU⟩ : ∃ U : Int, U = f / 4 := ⟨_, rfl⟩
  have hUi : i64 U := by unfold i64; omega
  have hU1 : f.fdiv (2 ^ min (Int.toNat 2) IntKind.i64.bits) = U := by
    rw [show min (Int.toNat 2) IntKind.i64.bits = 2 by decide, Int.fdiv_eq_ediv_of_nonneg _ (by decide), hU]; rfl
  have hU2 : f / 4 = U := hU.symm
  have HF := Lib.hid hf
  have HUI := Lib.hid hUi
  clear hA hz hO hU hf hs hUi
  go_enter Try.func6, Try.ntmps6
  go_wp2_with fail
  go_loopw [7, 8, 9, 10, 11] (fun vl vm av uv i wr => ∃ (k : Nat) (a u : Int), k ≤ n ∧ k ≤ 300 ∧ i = .int .i64 k ∧ av = .int .i64 a ∧ uv = .int .i64 u ∧ Hid (a = accZ f (fun _ => s) k) ∧ Hid (u = accZ U (stepD O) k) ∧ Hid (wr.ownsRow w.heap.size 3 1 vl k ((accL f (fun _ => s) k).map (Value.int .i64))) ∧ Hid (wr.ownsRow w.heap.size 3 1 vm k ((accL U (stepD O) k).map (Value.int .i64))) ∧ Hid (Ap vl vm) ∧ Hid (Below w.heap.size w wr)) (fun _ _ _ _ i _ => 300 - (intOf i).toNat)
  case atStart => exact ⟨0, f, U, by omega, by omega, rfl, rfl, rfl, Lib.hid rfl, Lib.hid rfl, Lib.hid (World.ownsRow_nil _ _ _ _), Lib.hid (World.ownsRow_nil _ _ _ _), Lib.hid (fun g h => by simp [Value.ownBlock] at h), Lib.hid (Below.refl _ _)⟩
  case round =>
    obtain ⟨k, a, u, hk, hk3, rfl, rfl, rfl, HAA, HUU, HOL, HOM, HAP, HBW⟩ := hrel
    by_cases hlt : k < n ∧ k < 300
    · obtain ⟨hkn, hk2⟩ := hlt
      have hkz : k < O.length := by have := HZ.out; omega
      obtain ⟨bo, oo, rfl, hc0⟩ := u64s_cell HA.out hkz
      obtain ⟨x, hx⟩ : ∃ x, x = O[k] := ⟨_, rfl⟩
      rw [← hx] at hc0
      have hx9 : x < 18446744073709551616 := by rw [hx]; exact HO.out _ (List.getElem_mem _)
      have hxd : stepD O k = ((x % 32 : Nat) : Int) := by unfold stepD; rw [List.getD_eq_getElem?_getD, List.getElem?_eq_getElem hkz, hx]; rfl
      obtain ⟨d, hd⟩ : ∃ d, d = x % 32 := ⟨_, rfl⟩
      have hd9 : d ≤ 31 := by omega
      have h31 : bits .and .u64 (x : Int) 31 = (d : Int) := by rw [hd]; exact and31 x hx9
      obtain ⟨a2, ha2⟩ : ∃ a2, a2 = wrap64 (a + s) := ⟨_, rfl⟩
      obtain ⟨u2, hu2⟩ : ∃ u2, u2 = wrap64 (u + (d : Int)) := ⟨_, rfl⟩
      have HA2 := Lib.hid (show a2 = accZ f (fun _ => s) (k + 1) by rw [ha2, HAA.out]; rfl)
      have HU2 := Lib.hid (show u2 = accZ U (stepD O) (k + 1) by rw [hu2, HUU.out, hd, ← hxd]; rfl)
      have hwa : wrap64 (a + s) = a2 := ha2.symm
      have hwu : wrap64 (u + (d : Int)) = u2 := hu2.symm
      have HTL := Lib.hid (show accL f (fun _ => s) (k + 1) = accL f (fun _ => s) k ++ [a] by rw [accL_snoc, HAA.out])
      have HTM := Lib.hid (show accL U (stepD O) (k + 1) = accL U (stepD O) k ++ [u] by rw [accL_snoc, HUU.out])
      have hki : (k : Int) < (n : Int) := by omega
      have hk0 : (0 : Int) ≤ (k : Int) := by omega
      have hdk : decide ((k : Int) < 300) = true := by simp; omega
      have HC0 := Lib.hid hc0
      have hown := HOL.out
      clear hx hxd hd ha2 hu2 hc0
      go_wp2_with (at_builtin; refine wpList_append_own_at _ rfl _ _ 22 rfl w.heap.size 3 i0 (.int .i64 0) 1 8 Try.underlying22 hi0 hz0 hz1 hz2 rfl (by decide) u7 k _ rfl (hown.alloc _) ⟨wr.heap.size, 0, none⟩ 1 1 [.int .i64 a] rfl rfl ?c1 ?c2 ?c3 ?c4 ?c5 ?_)
      case c2 => first | rfl | (intro u hu; simp at hu; subst hu; rfl)
      case c3 => unfold maxLen; omega
      case c4 => omega
      case c5 => have := HBW.out.size; simp; omega
      intro v' w3 hown' hgrow _ hrow
      have HB3 := Lib.hid (show Below w.heap.size w w3 from (bpush HBW.out _).grown hgrow (by have := HBW.out.size; simp; omega) (fun k hk => (hown.lt k hk).1))
      have HL3 := Lib.hid (show w3.ownsRow w.heap.size 3 1 v' (k + 1) ((accL f (fun _ => s) (k + 1)).map (Value.int .i64)) by rw [HTL.out, List.map_append]; simpa using hown')
      have HM3 := Lib.hid ((HOM.out.alloc _).kept hgrow HAP.out.ne)
      have HP3 := Lib.hid (HAP.out.step (HOM.out.alloc (.cells #[.int .i64 a] 3)) (by simpa using hrow))
      clear hown' hgrow hown hrow
      have hown := HM3.out
      go_wp2_with (at_builtin; refine wpList_append_own_at _ rfl _ _ 22 rfl w.heap.size 3 i0 (.int .i64 0) 1 8 Try.underlying22 hi0 hz0 hz1 hz2 rfl (by decide) u8 k _ rfl (hown.alloc _) ⟨w3.heap.size, 0, none⟩ 1 1 [.int .i64 u] rfl rfl ?d1 ?d2 ?d3 ?d4 ?d5 ?_)
      case d1 => intro j u hj; match j, hj with | 0, hj => simp at hj; subst hj; simp [Addr.add]
      case d2 => first | rfl | (intro u hu; simp at hu; subst hu; rfl)
      case d3 => unfold maxLen; omega
      case d4 => omega
      case d5 => have := HB3.out.size; simp; omega
      intro v'' w4 hown' hgrow _ hrow
      have HB4 := Lib.hid (show Below w.heap.size w w4 from (bpush HB3.out _).grown hgrow (by have := HB3.out.size; simp; omega) (fun k hk => (hown.lt k hk).1))
      have HM4 := Lib.hid (show w4.ownsRow w.heap.size 3 1 v'' (k + 1) ((accL U (stepD O) (k + 1)).map (Value.int .i64)) by rw [HTM.out, List.map_append]; simpa using hown')
      have HL4 := Lib.hid ((HL3.out.alloc _).kept hgrow HP3.out.symm.ne)
      have HP4 := Lib.hid (HP3.out.symm.step (HL3.out.alloc (.cells #[.int .i64 u] 3)) (by simpa using hrow)).symm
      have hc4 := (HB4.out.cell (p := ⟨bo, oo + k, none⟩) (lt_of_cell HC0.out)).trans HC0.out
      clear hown' hgrow hown hrow
      go_wp2_with fail
      go_roundw
      case rel => exact ⟨k + 1, a2, u2, by omega, by omega, by go_num, rfl, congrArg (Value.int .i64) hwu, HA2, HU2, HL4, HM4, HP4, HB4⟩
      case measure => simp [intOf]; omega
    · have hx : (¬ (k : Int) < (n : Int)) ∨ ((k : Int) < (n : Int) ∧ decide ((k : Int) < 300) = false) := by
        by_cases h : (k : Int) < (n : Int)
        · exact .inr ⟨h, by simp; omega⟩
        · exact .inl h
      have hk0 : (0 : Int) ≤ (k : Int) := by omega
      obtain ⟨Al, cl, rfl, hrl, hcl, hnl⟩ := own_slice HOL.out
      obtain ⟨Am, cm, rfl, hrm, hcm, hnm⟩ := own_slice HOM.out
      have HRL := Lib.hid hrl
      have HRM := Lib.hid hrm
      have HKL := Lib.hid (show k = (accL f (fun _ => s) k).length by rw [accL_length])
      have HKM := Lib.hid (show k = (accL U (stepD O) k).length by rw [accL_length])
      have HIL := Lib.hid (accL_ints HF.out (fun _ => s) k)
      have HIM := Lib.hid (accL_ints HUI.out (stepD O) k)
      have HSL := Lib.hid (small_len (l := accL f (fun _ => s) k) (by rw [accL_length]; exact hk3) (W := 0) (fun x hx => by rw [off_const HF.out k x hx]; decide))
      have HSM := Lib.hid (small_len (l := accL U (stepD O) k) (by rw [accL_length]; exact hk3) (W := 5) (off_few HUI.out (stepD_bd O) k))
      rw [← HKL.out] at HSL
      rw [← HKM.out] at HSM
      clear hrl hrm hnl hnm hlt
      rcases hx with hx | ⟨hx, hx2⟩
      all_goals (
        go_wp2_with fail
        refine (encode_any Al k cl _ _ HRL.out HKL.out (by omega) HIL.out).mono ?_
        rintro e w1 ⟨A1, c1, rfl, hr1, hc1, hn1, hB1⟩
        obtain ⟨q1, hq1⟩ : ∃ q, q = (encZ (accL f (fun _ => s) k)).length := ⟨_, rfl⟩
        have hs1 := HSL.out
        rw [← hq1] at hs1 ⊢
        have HRM1 := Lib.hid (HRM.out.keep (Nat.le_refl _) hB1)
        have HB1 := Lib.hid (bthen HBW.out hB1)
        clear hr1 hc1 hn1 hB1 hq1
        go_wp2_with fail
        refine (encode_any Am k cm _ _ HRM1.out HKM.out (by omega) HIM.out).mono ?_
        rintro e w2 ⟨A2, c2, rfl, hr2, hc2, hn2, hB2⟩
        obtain ⟨q2, hq2⟩ : ∃ q, q = (encZ (accL U (stepD O) k)).length := ⟨_, rfl⟩
        have hs2 := HSM.out
        rw [← hq2] at hs2 ⊢
        have HB2 := Lib.hid (bthen HB1.out hB2)
        clear hr2 hc2 hn2 hB2 hq2
        have g1 : (q1 : Int) ≤ 33 := by omega
        obtain ⟨z, hz⟩ : ∃ z, z = (5 * k + 7) / 8 := ⟨_, rfl⟩
        have g2 : (5 * (k : Int) + 7) / 8 = (z : Int) := by omega
        have g3 : (q2 : Int) ≤ 33 + (z : Int) := by omega
        clear hs1 hs2 hz
        go_wp2_with fail
        refine (alive_any _).mono ?_
        rintro e w5 ⟨rfl, hb⟩
        have HB5 := Lib.hid (bthen HB2.out hb)
        clear hb
        go_wp2
        go_ret
        exact ⟨by first | rfl | (simp; done) | (simp; omega), HB5.out⟩)
end Go.Proofs.Ytedldajlioeioaa
