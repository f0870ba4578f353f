/- A slice of bytes of which an argument tells. -/
import Derived.Test.YtgegmbkjkiifaaaZI
import Derived.Deep.Slices
import Derived.Deep.Fields
import Derived.ChangeSame
namespace Go.Proofs.Ytgegmbkjkiifaaa
open Go.ChangeShapes Go.WideShapes Go.Deep Go.RowKit
variable {H : Type} {enc : TypeId × Value → H} {w : World} {base : Nat} {spare : Nat → Bool} {held : Bool}
theorem bytes_opened {A : Option Addr} {len cap fuel : Nat} {x : DataW H × List MemPlace} (hu : DataW.trod enc Try.prog w base (fun _ => true) held fuel 40 (Value.slice A len cap).cells.toList = some x) :
    ∃ bs : List Int, Row w A (bs.map (Value.int .u8)) ∧ len ≤ cap ∧ cap ≤ maxLen ∧ len = bs.length ∧ bytes bs ∧ (A = none → cap = 0) := by
  rcases open_ints Try.underlying40 Try.underlying5 (by kernel_rfl) hu with ⟨hcs, _⟩ | ⟨x, l, c, zs, hcs, _, hl, hm, hz, _, hcell, hwz⟩
  · simp [Value.cells] at hcs
    obtain ⟨rfl, rfl, rfl⟩ := hcs
    exact ⟨[], .inl rfl, Nat.le_refl _, by simp [maxLen], rfl, by intro x hx; simp at hx, fun _ => rfl⟩
  · simp [Value.cells] at hcs
    obtain ⟨rfl, rfl, rfl⟩ := hcs
    obtain ⟨ys, h1, h2, h3, h4, h5⟩ := row_opened hl hm hz hcell hwz
    exact ⟨ys, h1, h2, h3, h4.symm, fun z hz => by have := bounds_u8 (h5 z hz); omega, fun h => by cases h⟩


end Go.Proofs.Ytgegmbkjkiifaaa
