/- The table as the rows lay it; an argument of bytes, opened. -/
import Derived.Test.YthogafecplhckaaDoorCIZ
import Derived.Test.YthogafecplhckaaDoorRows
import Derived.ChangeSame
import Derived.ChangeVars
import Derived.ProofKit
import Derived.OpenShut
import Derived.JoinedOf
import Derived.Lib.SmallJoins
namespace Go.Proofs.YthogafecplhckaaDoor
open Go.ChangeShapes Go.WideShapes Go.ChangeAt Go.RowKit Go.Joins
set_option linter.unusedSimpArgs false
set_option linter.unusedVariables false
theorem tab_named : Tryd.prog.globalNamed "columbary/check.halves" = some 0 := by kernel_rfl
theorem tab_type : (Tryd.prog.globals[0]?).map (·.type) = some 127 := by kernel_rfl
theorem tab_cells52 : Tryd.prog.cellsOf 127 = 16 := by kernel_rfl
theorem tab_cells32 : Tryd.prog.cellsOf 108 = 1 := by kernel_rfl
theorem tab_under52 : Tryd.prog.underlying 127 = some (.array 16 108) := by kernel_rfl
theorem tab_under32 : Tryd.prog.underlying 108 = some (.int .u32) := by kernel_rfl
theorem word_of_trod {H : Type} {enc : TypeId × Value → H} {P : Program} {w : World} {base : Nat} {sp : Nat → Bool} {held : Bool} {fuel : Nat} {t : TypeId} {k : IntKind} {c : Value} {y : DataW H × List MemPlace}
    (ht : P.underlying t = some (.int k)) (h : DataW.trod enc P w base sp held fuel t [c] = some y) : ∃ n, c = .int k n ∧ y = (.lit (.int k n), []) := by
  cases fuel with
  | zero => simp [DataW.trod] at h
  | succ fuel =>
    cases c <;> simp [DataW.trod, ht] at h
    obtain ⟨⟨rfl, _⟩, rfl⟩ := h
    exact ⟨_, rfl, rfl⟩
def cells16 : Array Value := (tabN.map fun (n : Nat) => Value.int .u32 (n : Int)).toArray
theorem tab_of_laid {W : World} (h : laidMet Tryd.prog [("columbary/check.halves", Rows.laid_columbary_check_halves)] W) : W.var? Tryd.prog "columbary/check.halves" = some cells16 := by
  obtain ⟨ps, ⟨g, t, cs, fuel, p, q, hg, ht, hvar, hd, _, _⟩, _⟩ := h
  obtain rfl := Option.some.inj (tab_named.symm.trans hg)
  obtain rfl := Option.some.inj (tab_type.symm.trans ht)
  rw [hvar]
  congr 1
  obtain ⟨l⟩ := cs
  cases fuel with
  | zero => simp [DataW.trod] at hd
  | succ fuel =>
    simp only [DataW.trod, tab_under52, tab_cells52, tab_cells32] at hd
    split at hd
    · rename_i hl
      obtain ⟨c0, c1, c2, c3, c4, c5, c6, c7, c8, c9, c10, c11, c12, c13, c14, c15, rfl⟩ : ∃ c0 c1 c2 c3 c4 c5 c6 c7 c8 c9 c10 c11 c12 c13 c14 c15, l = [c0, c1, c2, c3, c4, c5, c6, c7, c8, c9, c10, c11, c12, c13, c14, c15] := by
        match l, hl with
        | [x0, x1, x2, x3, x4, x5, x6, x7, x8, x9, x10, x11, x12, x13, x14, x15], _ => exact ⟨x0, x1, x2, x3, x4, x5, x6, x7, x8, x9, x10, x11, x12, x13, x14, x15, rfl⟩
      have e : List.range 16 = [0, 1, 2, 3, 4, 5, 6, 7, 8, 9, 10, 11, 12, 13, 14, 15] := rfl
      rw [e] at hd
      simp only [Option.map_eq_some_iff, List.mapM_cons, List.mapM_nil, Option.bind_eq_bind, Option.bind_eq_some_iff, Option.pure_def, Option.some.injEq] at hd
      obtain ⟨xs, ⟨y0, h0, _, ⟨y1, h1, _, ⟨y2, h2, _, ⟨y3, h3, _, ⟨y4, h4, _, ⟨y5, h5, _, ⟨y6, h6, _, ⟨y7, h7, _, ⟨y8, h8, _, ⟨y9, h9, _, ⟨y10, h10, _, ⟨y11, h11, _, ⟨y12, h12, _, ⟨y13, h13, _, ⟨y14, h14, _, ⟨y15, h15, _, rfl, rfl⟩, rfl⟩, rfl⟩, rfl⟩, rfl⟩, rfl⟩, rfl⟩, rfl⟩, rfl⟩, rfl⟩, rfl⟩, rfl⟩, rfl⟩, rfl⟩, rfl⟩, rfl⟩, hx⟩ := hd
      obtain ⟨n0, rfl, rfl⟩ := word_of_trod tab_under32 h0
      obtain ⟨n1, rfl, rfl⟩ := word_of_trod tab_under32 h1
      obtain ⟨n2, rfl, rfl⟩ := word_of_trod tab_under32 h2
      obtain ⟨n3, rfl, rfl⟩ := word_of_trod tab_under32 h3
      obtain ⟨n4, rfl, rfl⟩ := word_of_trod tab_under32 h4
      obtain ⟨n5, rfl, rfl⟩ := word_of_trod tab_under32 h5
      obtain ⟨n6, rfl, rfl⟩ := word_of_trod tab_under32 h6
      obtain ⟨n7, rfl, rfl⟩ := word_of_trod tab_under32 h7
      obtain ⟨n8, rfl, rfl⟩ := word_of_trod tab_under32 h8
      obtain ⟨n9, rfl, rfl⟩ := word_of_trod tab_under32 h9
      obtain ⟨n10, rfl, rfl⟩ := word_of_trod tab_under32 h10
      obtain ⟨n11, rfl, rfl⟩ := word_of_trod tab_under32 h11
      obtain ⟨n12, rfl, rfl⟩ := word_of_trod tab_under32 h12
      obtain ⟨n13, rfl, rfl⟩ := word_of_trod tab_under32 h13
      obtain ⟨n14, rfl, rfl⟩ := word_of_trod tab_under32 h14
      obtain ⟨n15, rfl, rfl⟩ := word_of_trod tab_under32 h15
      simp [Rows.laid_columbary_check_halves] at hx
      obtain ⟨⟨rfl, rfl, rfl, rfl, rfl, rfl, rfl, rfl, rfl, rfl, rfl, rfl, rfl, rfl, rfl, rfl⟩, _⟩ := hx
      rfl
    · cases hd
theorem tab_laid {W : World} (h : laidMet Tryd.prog [("columbary/check.halves", Rows.laid_columbary_check_halves)] W) : Tab W := by
  intro i hi
  have hv := tab_of_laid h
  rw [World.var?_cell tab_named hv i]
  rcases (show i = 0 ∨ i = 1 ∨ i = 2 ∨ i = 3 ∨ i = 4 ∨ i = 5 ∨ i = 6 ∨ i = 7 ∨ i = 8 ∨ i = 9 ∨ i = 10 ∨ i = 11 ∨ i = 12 ∨ i = 13 ∨ i = 14 ∨ i = 15 by omega) with rfl | rfl | rfl | rfl | rfl | rfl | rfl | rfl | rfl | rfl | rfl | rfl | rfl | rfl | rfl | rfl <;> rfl
section
variable {H : Type} {enc : TypeId × Value → H} {w : World} {base : Nat} {held : Bool}
theorem bytes_opened {A : Option Addr} {len cap fuel : Nat} {x : DataW H × List MemPlace} (hu : DataW.trod enc Tryd.prog w base (fun _ => true) held fuel 25 (Value.slice A len cap).cells.toList = some x) :
    ∃ bs : List Int, Row w A (bs.map (Value.int .u8)) ∧ len ≤ cap ∧ cap ≤ maxLen ∧ len = bs.length ∧ bytes bs ∧ (A = none → cap = 0) := by
  rcases open_ints Tryd.underlying25 Tryd.underlying5 (by kernel_rfl) hu with ⟨hcs, _⟩ | ⟨x, l, c, zs, hcs, _, hl, hm, hz, _, hcell, hwz⟩
  · simp [Value.cells] at hcs
    obtain ⟨rfl, rfl, rfl⟩ := hcs
    exact ⟨[], .inl rfl, Nat.le_refl _, by simp [maxLen], rfl, by intro x hx; simp at hx, fun _ => rfl⟩
  · simp [Value.cells] at hcs
    obtain ⟨rfl, rfl, rfl⟩ := hcs
    obtain ⟨ys, h1, h2, h3, h4, h5⟩ := row_opened hl hm hz hcell hwz
    exact ⟨ys, h1, h2, h3, h4.symm, fun z hz => by have := bounds_u8 (h5 z hz); omega, fun h => by cases h⟩
end
/-- A world that holds the table. -/
noncomputable def laidWorld (os : Os) : World :=
  { World.holding Tryd.prog os ⟨#[], #[], []⟩ with heap := (World.holding Tryd.prog os ⟨#[], #[], []⟩).heap.modify 0 fun
      | .cells _ t frozen => .cells cells16 t frozen
      | o => o }
theorem laidWorld_row3 (os : Os) : ((laidWorld os).forCall (fun _ _ => 0) ⟨#[], #[.slice none 0 0, .slice none 0 0, .slice none 0 0], []⟩).memory.heap[0]? = some (.cells cells16 127 (0, 0)) := by kernel_rfl
end Go.Proofs.YthogafecplhckaaDoor
