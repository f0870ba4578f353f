/- The law NibbleReads: its walk, from what both sides answer. -/
import Derived.Test.YtedldajlioeioaaNO
namespace Go.Proofs.Ytedldajlioeioaa
open Go.RowKit
set_option linter.unusedSimpArgs false
set_option linter.unusedVariables false
theorem unpack_both (A : Option Addr) (n c : Nat) (bs : List Int) (m W : Int) (hz : n = bs.length) (hb : bytes bs) (hn : n ≤ 300) :
    ∃ L E, L.length ≤ 65536 ∧ small L ∧ ∀ w, Row w A (bs.map (Value.int .u8)) → Calls Try.prog 44 #[.slice A n c, .int .i64 m, .int .i64 W] w (NumsE w L E) ∧ Calls Try.prog 31 #[.slice A n c, .int .i64 m, .int .i64 W] w (NumsE w L E) := by
  by_cases hok : okSize m W
  · obtain ⟨⟨h1, h2⟩, h3, h4⟩ := hok
    obtain ⟨M, rfl⟩ := Int.eq_ofNat_of_zero_le h1
    obtain ⟨V, rfl⟩ := Int.eq_ofNat_of_zero_le h3
    by_cases hs : n = sizeN M V
    · by_cases hp : numF (bitB bs) (M * V) (8 * n - M * V) = 0
      · refine ⟨unp bs V M, 0, by rw [unp_length]; omega, unp_small bs V M (by omega), fun w hA => ⟨(unpack_good A n c bs M V w hA hz hb (by omega) (by omega) (by omega) hs hp).mono ?_, (runpack_any A n c bs M V w hA hz hb (by omega) (by omega) (by omega) hs).mono fun e w' h => h.1 hp⟩⟩
        rintro e w' ⟨g, he, hr, hB⟩
        exact ⟨_, _, he, hr, hB⟩
      · refine ⟨[], 71, by simp, by intro x hx; simp at hx, fun w hA => ⟨(unpack_wrong A n c bs M V w hA hz hb (by omega) (by omega) (by omega) (fun h => hp h.2)).mono ?_, (runpack_any A n c bs M V w hA hz hb (by omega) (by omega) (by omega) hs).mono fun e w' h => h.2 hp⟩⟩
        rintro e w' ⟨he, rfl⟩
        exact ⟨none, 0, he, .inl rfl, Below.refl _ _⟩
    · refine ⟨[], 71, by simp, by intro x hx; simp at hx, fun w hA => ⟨(unpack_wrong A n c bs M V w hA hz hb (by omega) (by omega) (by omega) (fun h => hs h.1)).mono ?_, runpack_size A n c M V w (by omega) (by omega) (by omega) hs⟩⟩
      rintro e w' ⟨he, rfl⟩
      exact ⟨none, 0, he, .inl rfl, Below.refl _ _⟩
  · refine ⟨[], 1, by simp, by intro x hx; simp at hx, fun w hA => ⟨(unpack_bad A n c m W w hok).mono ?_, runpack_bad A n c m W w hok⟩⟩
    rintro e w' ⟨he, rfl⟩
    exact ⟨none, 0, he, .inl rfl, Below.refl _ _⟩
end Go.Proofs.Ytedldajlioeioaa
