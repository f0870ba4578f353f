/- The law NibbleTells: its walk. -/
import Derived.Test.YtedldajlioeioaaNL
namespace Go.Proofs.Ytedldajlioeioaa
open Go.RowKit
set_option linter.unusedSimpArgs false
set_option linter.unusedVariables false
set_option maxRecDepth 100000 in
set_option maxHeartbeats 1000000 in
theorem rpack_wide (A : Option Addr) (n c : Nat) (L : List Nat) (W : Nat) (w : World) (hA : Row w A (u64s L)) (hn : n ≤ 65536) (hz : n = L.length) (hs : small L) (hW : W ≤ 64) (hw : W < widthN L) :
    Calls Try.prog 23 #[.slice A n c, .int .i64 (W : Nat)] w fun e w' => e = .returned (.tuple #[.slice none 0 0, .int .i64 71]) ∧ w = w' := by
  have HZ := Lib.hid hz
  have HSM := Lib.hid hs
  have HW := Lib.hid hw
  clear hz hs hw
  have hn0 : (n : Int) ≤ 65536 := by omega
  go_enter Try.func23, Try.ntmps23
  go_wp2_with fail
  refine (rsize_good _ _ _ (by omega) hn0 (by omega) (by omega)).mono ?_
  rintro e w1 ⟨rfl, rfl⟩
  obtain ⟨S, hS⟩ : ∃ S, S = ((n : Int) * (W : Int) + 7) / 8 := ⟨_, rfl⟩
  rw [← hS]
  clear hS
  go_wp2_with fail
  refine (rwidth_any A n c L _ hA (by omega) HZ.out HSM.out).mono ?_
  rintro e w1 ⟨rfl, rfl⟩
  obtain ⟨V, hV⟩ : ∃ V, V = widthN L := ⟨_, rfl⟩
  have hVW : W < V := by have := HW.out; omega
  rw [← hV]
  clear hV
  go_wp2
  go_ret2
  exact ⟨rfl, rfl⟩
set_option maxRecDepth 100000 in
set_option maxHeartbeats 1000000 in
theorem rpack_bad (A : Option Addr) (n c : Nat) (W : Int) (w : World) (h : ¬ okSize n W) :
    Calls Try.prog 23 #[.slice A n c, .int .i64 W] w fun e w' => e = .returned (.tuple #[.slice none 0 0, .int .i64 1]) ∧ w = w' := by
  go_enter Try.func23, Try.ntmps23
  go_wp2_with fail
  refine (rsize_bad _ _ _ h).mono ?_
  rintro e w1 ⟨rfl, rfl⟩
  clear h
  go_wp2
  go_ret2
  exact ⟨rfl, rfl⟩
/-- Some bytes, and an error. -/
def BytesE (w : World) (xs : List Int) (E : Int) (e : Ending) (w' : World) : Prop :=
  ∃ A c, e = .returned (.tuple #[.slice A xs.length c, .int .i64 E]) ∧ Row w' A (xs.map (Value.int .u8)) ∧ Below w.heap.size w w'
theorem pack_both (A : Option Addr) (n c : Nat) (L : List Nat) (W : Int) (hz : n = L.length) (hs : small L) (hn : n ≤ 300) :
    ∃ xs E, xs.length ≤ 3000 ∧ ∀ w, Row w A (u64s L) → Calls Try.prog 18 #[.slice A n c, .int .i64 W] w (BytesE w xs E) ∧ Calls Try.prog 23 #[.slice A n c, .int .i64 W] w (BytesE w xs E) := by
  by_cases hok : okSize n W
  · obtain ⟨_, h0, h64⟩ := hok
    obtain ⟨V, rfl⟩ := Int.eq_ofNat_of_zero_le h0
    by_cases hw : widthN L ≤ V
    · refine ⟨packL L V, 0, ?_, fun w hA => ⟨(pack_good A n c L V w hA (by omega) hz hs (by omega) hw).mono ?_, (rpack_good A n c L V w hA (by omega) hz hs (by omega) hw).mono ?_⟩⟩
      · rw [packL_length]
        have : L.length * V ≤ 300 * 64 := Nat.mul_le_mul (by omega) (by omega)
        unfold sizeN; omega
      · rintro e w' ⟨g, he, _, hk, hB⟩
        exact ⟨_, _, he, u8s_row hk, hB⟩
      · rintro e w' ⟨A', c', he, hk, _, _, hB⟩
        exact ⟨_, _, he, hk, hB⟩
    · refine ⟨[], 71, by simp, fun w hA => ⟨(pack_wide A n c L V w hA (by omega) hz hs (by omega) (by omega)).mono ?_, (rpack_wide A n c L V w hA (by omega) hz hs (by omega) (by omega)).mono ?_⟩⟩
      all_goals
        rintro e w' ⟨he, rfl⟩
        exact ⟨none, 0, he, .inl rfl, Below.refl _ _⟩
  · refine ⟨[], 1, by simp, fun w hA => ⟨(pack_bad A n c W w hok).mono ?_, (rpack_bad A n c W w hok).mono ?_⟩⟩
    all_goals
      rintro e w' ⟨he, rfl⟩
      exact ⟨none, 0, he, .inl rfl, Below.refl _ _⟩
theorem size_both (n W : Int) : ∃ P G, ∀ w, (Calls Try.prog 36 #[.int .i64 n, .int .i64 W] w fun e w' => e = .returned (.tuple #[.int .i64 P, .int .i64 G]) ∧ w = w') ∧ (Calls Try.prog 29 #[.int .i64 n, .int .i64 W] w fun e w' => e = .returned (.tuple #[.int .i64 P, .int .i64 G]) ∧ w = w') := by
  by_cases hok : okSize n W
  · obtain ⟨⟨h1, h2⟩, h3, h4⟩ := hok
    exact ⟨_, _, fun w => ⟨size_good n W w h1 h2 h3 h4, rsize_good n W w h1 h2 h3 h4⟩⟩
  · exact ⟨_, _, fun w => ⟨size_bad n W w hok, rsize_bad n W w hok⟩⟩
end Go.Proofs.Ytedldajlioeioaa
