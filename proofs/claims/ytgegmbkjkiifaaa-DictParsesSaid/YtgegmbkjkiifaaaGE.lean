import Derived.Test.YtgegmbkjkiifaaaGD
namespace Go.Proofs.Ytgegmbkjkiifaaa
open Go.RowKit
set_option linter.unusedSimpArgs false
set_option maxRecDepth 100000 in
set_option maxHeartbeats 1000000 in
theorem number_any (A : Option Addr) (n c : Nat) (bs : List Int) (w : World) (hA : Row w A (bs.map (Value.int .u8))) (hn : n ≤ 9223372036854775807) (hz : n = bs.length) (hb : bytes bs) (v : Int) (l : Nat) (hr : numP bs = (v, l)) :
    Calls Try.prog 55 #[.slice A n c] w fun e w' => e = .returned (.tuple #[.int .i64 v, .int .i64 l]) ∧ w = w' := by
  have HZ := Lib.hid hz
  have HB := Lib.hid hb
  have HR := Lib.hid hr
  clear hz hb hr
  go_enter Try.func55, Try.ntmps55
  go_wp2_with fail
  go_loop [4, 5, 6, 9] (fun u _ _ i => ∃ k U : Nat, k ≤ n ∧ i = .int .i64 k ∧ u = .int .u64 U ∧ (U : Int) ≤ 18446744073709551615 ∧ Hid (numAux 0 0 bs = numAux k U (bs.drop k))) (fun _ _ _ i => n - (intOf i).toNat)
  case atStart => exact ⟨0, 0, Nat.zero_le _, rfl, rfl, by omega, rfl⟩
  case round =>
    obtain ⟨k, U, hk, rfl, rfl, hU, HU⟩ := hrel
    by_cases hlt : k < n
    · have hkz : k < bs.length := by have := HZ.out; omega
      obtain ⟨b, off, hA', hcell⟩ := hA.cell hkz
      obtain ⟨x, hx⟩ : ∃ x, x = bs[k] := ⟨_, rfl⟩
      obtain ⟨x0, x1⟩ := HB.out x (by rw [hx]; exact List.getElem_mem _)
      have hd : bs.drop k = x :: bs.drop (k + 1) := by rw [hx]; exact List.drop_eq_getElem_cons hkz
      have hU2 := HU.out
      rw [hd] at hU2
      rw [← hx] at hcell
      have HU2 := Lib.hid hU2
      clear hx hd hU2 HU hA
      subst hA'
      have hm1 := u8_mask x x0 x1
      by_cases hbig : 144115188075855871 < U
      · have Hv := Lib.hid (show v = 0 ∧ l = 0 by
          have := HR.out
          unfold numP at this
          rw [HU2.out, num_stop (.inr hbig)] at this
          simp only [Prod.mk.injEq] at this
          exact ⟨this.1.symm, this.2.symm⟩)
        clear HR HU2 hm1
        have hbig' : (144115188075855871 : Int) < (U : Int) := by omega
        by_cases hk0 : k = 0
        · subst hk0
          rw [Nat.add_zero] at hcell
          by_cases hx8 : x = 128
          all_goals
            go_wp2
            go_ret2
            obtain ⟨rfl, rfl⟩ := Hv.out
            exact ⟨rfl, rfl⟩
        · have hk1 : (1 : Int) ≤ (k : Int) := by omega
          go_wp2
          go_ret2
          obtain ⟨rfl, rfl⟩ := Hv.out
          exact ⟨rfl, rfl⟩
      · have hbig' : (U : Int) ≤ 144115188075855871 := by omega
        by_cases hst : k = 0 ∧ x = 128
        · have Hv := Lib.hid (show v = 0 ∧ l = 0 by
            have := HR.out
            unfold numP at this
            rw [HU2.out, num_stop (.inl hst)] at this
            simp only [Prod.mk.injEq] at this
            exact ⟨this.1.symm, this.2.symm⟩)
          clear HR HU2 hm1
          obtain ⟨rfl, rfl⟩ := hst
          rw [Nat.add_zero] at hcell
          go_wp2
          go_ret2
          obtain ⟨rfl, rfl⟩ := Hv.out
          exact ⟨rfl, rfl⟩
        · have hj := u64_join U (x % 128) (by omega) hbig' (by omega) (by omega)
          have hno : ¬ ((k = 0 ∧ x = 128) ∨ 144115188075855871 < U) := by omega
          have hUn : (((U * 128 + (x % 128).toNat : Nat)) : Int) = (U : Int) * 128 + x % 128 := by omega
          by_cases hlast : x < 128
          · have Hv := Lib.hid (show v = unfoldZ ((U : Int) * 128 + x % 128) ∧ l = k + 1 by
              have := HR.out
              unfold numP at this
              rw [HU2.out, num_end hno hlast] at this
              simp only [Prod.mk.injEq] at this
              exact ⟨by rw [← this.1, hUn], this.2.symm⟩)
            clear HR HU2 hUn hno
            by_cases hk0 : k = 0
            · subst hk0
              rw [Nat.add_zero] at hcell
              have hx8 : (x == 128) = false := by simp; omega
              clear hst
              go_wp2_with (go_at_call 69; refine (unfold_any _ _ (by omega) (by omega)).mono ?_; rintro e w1 ⟨rfl, rfl⟩)
              go_ret2
              obtain ⟨rfl, rfl⟩ := Hv.out
              exact ⟨by simp, rfl⟩
            · have hk1 : (1 : Int) ≤ (k : Int) := by omega
              clear hst
              go_wp2_with (go_at_call 69; refine (unfold_any _ _ (by omega) (by omega)).mono ?_; rintro e w1 ⟨rfl, rfl⟩)
              go_ret2
              obtain ⟨rfl, rfl⟩ := Hv.out
              exact ⟨by simp, rfl⟩
          · have Hv := Lib.hid (show numAux 0 0 bs = numAux (k + 1) (U * 128 + (x % 128).toNat) (bs.drop (k + 1)) by rw [HU2.out, num_go hno hlast])
            have HUn := Lib.hid hUn
            clear HR HU2 hUn hno
            by_cases hk0 : k = 0
            · subst hk0
              rw [Nat.add_zero] at hcell
              have hx8 : (x == 128) = false := by simp; omega
              clear hst
              go_wp2
              go_round
              case rel => exact ⟨0 + 1, U * 128 + (x % 128).toNat, by omega, by go_num, by rw [HUn.out], by rw [HUn.out]; omega, Hv⟩
              case measure => simp [intOf]; omega
            · have hk1 : (1 : Int) ≤ (k : Int) := by omega
              clear hst
              go_wp2
              go_round
              case rel => exact ⟨k + 1, U * 128 + (x % 128).toNat, by omega, by go_num, by rw [HUn.out], by rw [HUn.out]; omega, Hv⟩
              case measure => simp [intOf]; omega
    · go_wp2
      go_ret2
      have := HR.out
      unfold numP at this
      rw [HU.out, List.drop_of_length_le (by have := HZ.out; omega)] at this
      simp only [numAux, Prod.mk.injEq] at this
      obtain ⟨rfl, rfl⟩ := this
      exact ⟨rfl, rfl⟩
end Go.Proofs.Ytgegmbkjkiifaaa
