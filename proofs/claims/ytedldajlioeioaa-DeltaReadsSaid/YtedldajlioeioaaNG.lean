/- The law NibbleWidth: its walk. -/
import Derived.Test.YtedldajlioeioaaNF
import Derived.Deep.Slices
import Derived.Deep.Fields
import Derived.ChangeSame
namespace Go.Proofs.Ytedldajlioeioaa
open Go.ChangeShapes Go.WideShapes Go.Deep Go.RowKit
set_option linter.unusedSimpArgs false
def highL (l : List Nat) : Nat := l.foldl max 0
theorem highL_snoc (l : List Nat) (x : Nat) : highL (l ++ [x]) = max (highL l) x := by simp [highL]
theorem highF_lt {w : Nat} : ∀ (l : List Nat) (a : Nat), (l.foldl max a < w ↔ a < w ∧ ∀ x ∈ l, x < w) := by
  intro l
  induction l with
  | nil => intro a; simp
  | cons x l ih =>
    intro a
    rw [List.foldl_cons, ih, Nat.max_lt]
    simp only [List.mem_cons, forall_eq_or_imp, and_assoc]
theorem high_width {l : List Nat} (hs : small l) (v : Nat) : widthN l ≤ v ↔ highL l < 2 ^ v := by
  rw [widthN_le hs]; unfold highL; rw [highF_lt]
  exact ⟨fun h => ⟨Nat.pow_pos (by omega), h⟩, fun h => h.2⟩
theorem high_top {l : List Nat} (hs : small l) {v : Nat} (h : widthN l = v + 1) : highL l / 2 ^ v = 1 := by
  have h1 := (high_width hs (v + 1)).1 (by omega)
  have h2 : ¬ highL l < 2 ^ v := fun h3 => by have := (high_width hs v).2 h3; omega
  rw [Nat.pow_succ] at h1
  have hp : 0 < 2 ^ v := Nat.pow_pos (by omega)
  rw [Nat.div_eq_of_lt_le] <;> omega
variable {H : Type} {enc : TypeId × Value → H} {w : World} {base : Nat} {held : Bool}
theorem u64s_opened {A : Option Addr} {len cap fuel : Nat} {x : DataW H × List MemPlace} (hu : DataW.trod enc Try.prog w base (fun _ => true) held fuel 34 (Value.slice A len cap).cells.toList = some x) :
    ∃ L : List Nat, Row w A (u64s L) ∧ len ≤ cap ∧ cap ≤ maxLen ∧ len = L.length ∧ small L ∧ (A = none → cap = 0) := by
  rcases open_ints Try.underlying34 Try.underlying36 (by kernel_rfl) hu with ⟨hcs, _⟩ | ⟨x, l, c, zs, hcs, _, hl, hm, hz, _, hcell, hwz⟩
  · simp [Value.cells] at hcs
    obtain ⟨rfl, rfl, rfl⟩ := hcs
    exact ⟨[], .inl rfl, Nat.le_refl _, by simp [maxLen], rfl, by intro x hx; simp at hx, fun _ => rfl⟩
  · simp [Value.cells] at hcs
    obtain ⟨rfl, rfl, rfl⟩ := hcs
    obtain ⟨ys, h1, h2, h3, h4, h5⟩ := row_opened hl hm hz hcell hwz
    have hb : ∀ z ∈ ys, 0 ≤ z ∧ z ≤ 18446744073709551615 := fun z hz => bounds_u64 (h5 z hz)
    have he : (ys.map (Value.int .u64)) = u64s (ys.map Int.toNat) := by
      unfold u64s
      rw [List.map_map]
      apply List.map_congr_left
      intro z hz
      have := hb z hz
      simp only [Function.comp]
      rw [Int.toNat_of_nonneg this.1]
    refine ⟨ys.map Int.toNat, he ▸ h1, h2, h3, by rw [List.length_map]; exact h4.symm, fun z hz => ?_, fun h => by cases h⟩
    obtain ⟨y, hy, rfl⟩ := List.mem_map.1 hz
    have := hb y hy
    omega
end Go.Proofs.Ytedldajlioeioaa
