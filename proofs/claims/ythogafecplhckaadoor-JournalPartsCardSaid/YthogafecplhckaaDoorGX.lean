/- The document's reader: its number. -/
import Derived.Test.YthogafecplhckaaDoorGZ
import Derived.Deep.QuietTactic
import Derived.BigQuiet
namespace Go.Proofs.YthogafecplhckaaDoor
open Go.RowKit
set_option linter.unusedSimpArgs false
set_option linter.unusedVariables false
/-- The document's reader: its three cells. -/
def Bx (w : World) (mb : Nat) (v : Value) (I : Nat) (bad : Bool) : Prop :=
  w.cell? ⟨mb, 0, none⟩ = some v ∧ w.cell? ⟨mb, 1, none⟩ = some (.int .i64 I) ∧ w.cell? ⟨mb, 2, none⟩ = some (.bool bad) ∧ ∀ o, w.frozen? ⟨mb, o, none⟩ = false ∧ (3 ≤ o → w.cell? ⟨mb, o, none⟩ = none)
/-- The folded number that bytes begin with, and how many bytes it has. -/
def numU (cs : List Int) : Nat × Nat := match numAux 0 0 cs with | none => (0, 0) | some p => p
theorem num_ten {k U : Nat} {cs : List Int} (h : 144115188075855871 < U) : numAux k U cs = none := by
  cases cs with
  | nil => rfl
  | cons c cs => exact num_stop (.inr h)
theorem numU_none {cs : List Int} {k U u l : Nat} (hr : numU cs = (u, l)) (h : numAux 0 0 cs = numAux k U []) : u = 0 ∧ l = 0 := by
  unfold numU at hr; rw [h] at hr; simp only [numAux, Prod.mk.injEq] at hr; omega
theorem numU_none' {cs ds : List Int} {k U u l : Nat} (hr : numU cs = (u, l)) (h : numAux 0 0 cs = numAux k U ds) (hn : numAux k U ds = none) : u = 0 ∧ l = 0 := by
  unfold numU at hr; rw [h, hn] at hr; simp only [Prod.mk.injEq] at hr; omega
theorem numU_some {cs ds : List Int} {k U u l a b : Nat} (hr : numU cs = (u, l)) (h : numAux 0 0 cs = numAux k U ds) (hn : numAux k U ds = some (a, b)) : u = a ∧ l = b := by
  unfold numU at hr; rw [h, hn] at hr; simp only [Prod.mk.injEq] at hr; omega
set_option maxRecDepth 100000 in
set_option maxHeartbeats 4000000 in
theorem refnum_any (mb : Nat) (A : Option Addr) (n c I : Nat) (bad : Bool) (bs : List Int) (w : World) (hB : Bx w mb (.slice A n c) I bad) (hA : Row w A (bs.map (Value.int .u8))) (hn : n ≤ 1000000) (hz : n = bs.length) (hI : I ≤ n) (hb : bytes bs) (u l : Nat) (hr : numU (bs.drop I) = (u, l)) :
    Calls Tryd.prog 90 #[.pointer (some ⟨mb, 0, none⟩)] w fun e w' => e = .returned (.tuple #[.int .u64 u, .int .i64 l]) ∧ ∃ m, w' = w.drewN m := by
  have HZ := Lib.hid hz
  have HB := Lib.hid hb
  have HR := Lib.hid hr
  obtain ⟨b0, b1, b2, b3⟩ := hB
  clear hz hb hr b3
  go_enter Tryd.func90, Tryd.ntmps90
  go_wp2_with fail
  go_loopw [4, 5, 6] (fun u i _ wr => ∃ k U : Nat, k ≤ 10 ∧ i = .int .i64 k ∧ u = .int .u64 U ∧ (U : Int) ≤ 18446744073709551615 ∧ Hid ((k = 0 ∧ U = 0) ∨ (0 < k ∧ 128 ^ (k - 1) ≤ U)) ∧ Hid (numAux 0 0 (bs.drop I) = numAux k U (bs.drop (I + k))) ∧ Hid (∃ m, wr = w.drewN m)) (fun _ i _ _ => 10 - (intOf i).toNat)
  case atStart => exact ⟨0, 0, by omega, rfl, rfl, by omega, Lib.hid (.inl ⟨rfl, rfl⟩), Lib.hid rfl, Lib.hid ⟨0, rfl⟩⟩
  case round =>
    obtain ⟨k, U, hk, rfl, rfl, hU, HJ, HU, HM⟩ := hrel
    obtain ⟨m, hm⟩ := HM.out
    have c0 : wr.cell? ⟨mb, 0, none⟩ = some (.slice A n c) := by rw [hm]; simpa using b0
    have c1 : wr.cell? ⟨mb, 1, none⟩ = some (.int .i64 I) := by rw [hm]; simpa using b1
    have hk0 : (0 : Int) ≤ (k : Int) := by omega
    by_cases hin : k < 10 ∧ I + k < n
    · obtain ⟨hk10, hlt⟩ := hin
      have hkz : I + k < bs.length := by have := HZ.out; omega
      obtain ⟨b, off, hA', hcell0⟩ := hA.cell hkz
      obtain ⟨x, hx⟩ : ∃ x, x = bs[I + k] := ⟨_, rfl⟩
      obtain ⟨x0, x1⟩ := HB.out x (by rw [hx]; exact List.getElem_mem _)
      have hd : bs.drop (I + k) = x :: bs.drop (I + (k + 1)) := by rw [hx]; exact List.drop_eq_getElem_cons hkz
      have hU2 := HU.out
      rw [hd] at hU2
      rw [← hx] at hcell0
      have hcell : wr.cell? ⟨b, off + (I + k), none⟩ = some (.int .u8 x) := by rw [hm]; simpa using hcell0
      have HU2 := Lib.hid hU2
      have hik : IntKind.i64.wrap ((I : Int) + (k : Int)) = ((I + k : Nat) : Int) := by rw [IntWalk.i64_in _ (by omega)]; omega
      have hk9 : (k : Int) < 10 := by omega
      have hikn : ((I + k : Nat) : Int) < (n : Int) := by omega
      have hik0 : (0 : Int) ≤ ((I + k : Nat) : Int) := by omega
      have HM2 := Lib.hid (fun q => ⟨m + q, by rw [hm]; simp⟩ : ∀ q, ∃ m, wr.drewN q = w.drewN m)
      clear hx hd hU2 HU hA hcell0 hm HM
      subst hA'
      obtain ⟨P, hP⟩ : ∃ P, P = I + k := ⟨_, rfl⟩
      rw [← hP] at hik hikn hik0 hcell
      by_cases hbig : 144115188075855871 < U
      · have Hv := Lib.hid (numU_none' HR.out HU2.out (num_ten hbig))
        have hbig' : (144115188075855871 : Int) < (U : Int) := by omega
        clear HR HU2 HJ
        by_cases hk00 : k = 0
        · subst hk00
          obtain rfl : P = I := by omega
          have hdn : decide (P < n) = true := by simp; omega
          clear hik hP
          by_cases hx8 : x = 128
          · subst hx8
            go_wp2_with fail
            go_quiet (fail)
            go_wp2_with fail
            go_quiet (fail)
            go_wp2_with fail
            go_ret2
            obtain ⟨rfl, rfl⟩ := Hv.out
            exact ⟨rfl, HM2.out _⟩
          · have hxx : (x == 128) = false := by simp; omega
            go_wp2_with fail
            go_quiet (fail)
            go_wp2_with fail
            go_quiet (fail)
            go_wp2_with fail
            go_ret2
            obtain ⟨rfl, rfl⟩ := Hv.out
            exact ⟨rfl, HM2.out _⟩
        · have hdk : decide ((k : Int) = 0) = false := by simp; omega
          have hdn : decide (P < n) = true := by simp; omega
          have hk1 : (1 : Int) ≤ (k : Int) := by omega
          clear hP
          go_wp2_with fail
          go_quiet (fail)
          go_wp2_with fail
          go_quiet (fail)
          go_wp2_with fail
          go_ret2
          obtain ⟨rfl, rfl⟩ := Hv.out
          exact ⟨rfl, HM2.out _⟩
      · have hbig' : (U : Int) ≤ 144115188075855871 := by omega
        by_cases hst : k = 0 ∧ x = 128
        · have Hv := Lib.hid (numU_none' HR.out HU2.out (num_stop (.inl hst)))
          clear HR HU2 HJ
          obtain ⟨rfl, rfl⟩ := hst
          obtain rfl : P = I := by omega
          have hdn : decide (P < n) = true := by simp; omega
          clear hik hP
          go_wp2_with fail
          go_quiet (fail)
          go_wp2_with fail
          go_quiet (fail)
          go_wp2_with fail
          go_ret2
          obtain ⟨rfl, rfl⟩ := Hv.out
          exact ⟨rfl, HM2.out _⟩
        · have hno : ¬ ((k = 0 ∧ x = 128) ∨ 144115188075855871 < U) := by omega
          obtain ⟨y, hy⟩ : ∃ y : Nat, (y : Int) = x % 128 := ⟨(x % 128).toNat, by omega⟩
          have hy1 : y < 128 := by omega
          have hmod : x.tmod 128 = (y : Int) := by rw [Int.tmod_eq_emod_of_nonneg x0]; exact hy.symm
          have hyn : (x % 128).toNat = y := by omega
          have hw1 : IntKind.u64.wrap (128 * (U : Int)) = 128 * (U : Int) := IntWalk.u64_in _ (by omega)
          have hw2 : IntKind.u64.wrap (128 * (U : Int) + (y : Int)) = ((U * 128 + y : Nat) : Int) := by rw [IntWalk.u64_in _ (by omega)]; omega
          obtain ⟨V, hV⟩ : ∃ V, V = U * 128 + y := ⟨_, rfl⟩
          have hV64 : (V : Int) ≤ 18446744073709551615 := by omega
          rw [← hV] at hw2
          have hVi : (U : Int) * 128 + (y : Int) = (V : Int) := by omega
          have HVI := Lib.hid hVi
          clear hVi
          by_cases hlast : x < 128
          · have Hv := Lib.hid (numU_some HR.out HU2.out (num_end hno hlast))
            rw [hyn, ← hV] at Hv
            clear HR HU2 HJ hno hyn hy
            by_cases hk00 : k = 0
            · subst hk00
              obtain rfl : P = I := by omega
              have hxx : (x == 128) = false := by simp; omega
              have hdn : decide (P < n) = true := by simp; omega
              clear hst hik hP
              go_wp2_with fail
              go_quiet (fail)
              go_wp2_with fail
              go_quiet (fail)
              go_wp2_with fail
              go_ret2
              obtain ⟨rfl, rfl⟩ := Hv.out
              exact ⟨by first | (rw [HVI.out]; done) | (rw [HVI.out]; simp), HM2.out _⟩
            · have hdk : decide ((k : Int) = 0) = false := by simp; omega
              have hdn : decide (P < n) = true := by simp; omega
              have hk1 : (1 : Int) ≤ (k : Int) := by omega
              clear hst hP
              go_wp2_with fail
              go_quiet (fail)
              go_wp2_with fail
              go_quiet (fail)
              go_wp2_with fail
              go_ret2
              obtain ⟨rfl, rfl⟩ := Hv.out
              exact ⟨by first | (rw [HVI.out]; done) | (rw [HVI.out]; simp), HM2.out _⟩
          · have Hv := Lib.hid (show numAux 0 0 (bs.drop I) = numAux (k + 1) V (bs.drop (I + (k + 1))) by rw [HU2.out, num_go hno hlast, hyn, ← hV])
            have HJ2 := Lib.hid (show (k + 1 = 0 ∧ V = 0) ∨ (0 < k + 1 ∧ 128 ^ (k + 1 - 1) ≤ V) by
              refine .inr ⟨by omega, ?_⟩
              rw [Nat.add_sub_cancel]
              rcases HJ.out with ⟨h1, h2⟩ | ⟨h1, h2⟩
              · subst h1; simp; omega
              · obtain ⟨j, rfl⟩ : ∃ j, k = j + 1 := ⟨k - 1, by omega⟩
                rw [Nat.add_sub_cancel] at h2
                rw [Nat.pow_succ]; omega)
            clear HR HU2 HJ hno hyn hy
            by_cases hk00 : k = 0
            · subst hk00
              obtain rfl : P = I := by omega
              have hxx : (x == 128) = false := by simp; omega
              have hdn : decide (P < n) = true := by simp; omega
              clear hst hik hP
              go_wp2_with fail
              go_quiet (fail)
              go_wp2_with fail
              go_quiet (fail)
              go_wp2_with fail
              go_roundw
              case rel => exact ⟨0 + 1, V, by omega, by go_num, by rw [HVI.out], hV64, HJ2, Hv, Lib.hid (HM2.out _)⟩
              case measure => simp [intOf]
            · have hdk : decide ((k : Int) = 0) = false := by simp; omega
              have hdn : decide (P < n) = true := by simp; omega
              have hk1 : (1 : Int) ≤ (k : Int) := by omega
              clear hst hP
              go_wp2_with fail
              go_quiet (fail)
              go_wp2_with fail
              go_quiet (fail)
              go_wp2_with fail
              go_roundw
              case rel => exact ⟨k + 1, V, by omega, by go_num, by rw [HVI.out], hV64, HJ2, Hv, Lib.hid (HM2.out _)⟩
              case measure => simp [intOf]; omega
    · have Hv := Lib.hid (show u = 0 ∧ l = 0 from numU_none' HR.out HU.out (by
        by_cases hk10 : k < 10
        · rw [List.drop_of_length_le (by have := HZ.out; omega)]; rfl
        · rcases HJ.out with h | ⟨_, h⟩
          · omega
          · obtain rfl : k = 10 := by omega
            exact num_ten (by have e : (128 : Nat) ^ (10 - 1) = 9223372036854775808 := by decide
                              omega)))
      have HM2 := Lib.hid (fun q => ⟨m + q, by rw [hm]; simp⟩ : ∀ q, ∃ m, wr.drewN q = w.drewN m)
      have hik : IntKind.i64.wrap ((I : Int) + (k : Int)) = ((I + k : Nat) : Int) := by rw [IntWalk.i64_in _ (by omega)]; omega
      have hik0 : (0 : Int) ≤ ((I + k : Nat) : Int) := by omega
      clear HR HU HJ hm HM hA
      by_cases hk10 : k < 10
      · have hk9 : (k : Int) < 10 := by omega
        obtain ⟨P, hP⟩ : ∃ P, P = I + k := ⟨_, rfl⟩
        have hdn : decide (P < n) = false := by simp; omega
        have hdi : decide ((P : Int) < (n : Int)) = false := by simp; omega
        rw [← hP] at hik hik0
        by_cases hk00 : k = 0
        · subst hk00
          obtain rfl : P = I := by omega
          clear hik hP hin
          go_wp2_with fail
          go_quiet (fail)
          go_wp2_with fail
          go_ret2
          obtain ⟨rfl, rfl⟩ := Hv.out
          exact ⟨rfl, HM2.out _⟩
        · clear hP hin
          go_wp2_with fail
          go_quiet (fail)
          go_wp2_with fail
          go_ret2
          obtain ⟨rfl, rfl⟩ := Hv.out
          exact ⟨rfl, HM2.out _⟩
      · obtain rfl : k = 10 := by omega
        clear hin hik hik0
        go_wp2_with fail
        go_quiet (fail)
        go_wp2_with fail
        go_ret2
        obtain ⟨rfl, rfl⟩ := Hv.out
        exact ⟨rfl, HM2.out _⟩
end Go.Proofs.YthogafecplhckaaDoor
