/- A slice of acts, and a slice of bytes, of which an argument tells. -/
import Derived.Test.YtmeheaapfdldeaaP
import Derived.Deep.Slices
import Derived.Deep.Fields
import Derived.ChangeSame
namespace Go.Proofs.Ytmeheaapfdldeaa
open Go.ChangeShapes Go.WideShapes Go.Deep Go.RowKit
/-- What an act's numbers and text are bounded by. -/
def okAct (a : Act5) : Prop := (-9223372036854775808 ≤ a.n ∧ a.n ≤ 9223372036854775807) ∧ (-9223372036854775808 ≤ a.least ∧ a.least ≤ 9223372036854775807) ∧ (-9223372036854775808 ≤ a.most ∧ a.most ≤ 9223372036854775807) ∧ a.s.size ≤ maxLen
theorem list_of {α : Type} {p : Nat → α → Prop} : ∀ n : Nat, (∀ i, i < n → ∃ a, p i a) → ∃ L : List α, L.length = n ∧ ∀ i (h : i < L.length), p i L[i] := by
  intro n
  induction n with
  | zero => intro _; exact ⟨[], rfl, by simp⟩
  | succ n ih =>
    intro h
    obtain ⟨L, h1, h2⟩ := ih (fun i hi => h i (by omega))
    obtain ⟨a, ha⟩ := h n (by omega)
    refine ⟨L ++ [a], by simp [h1], fun i hi => ?_⟩
    by_cases hl : i < L.length
    · rw [List.getElem_append_left hl]; exact h2 i hl
    · have : i = n := by simp at hi; omega
      subst this
      rw [List.getElem_append_right (by omega)]
      simpa using ha
variable {H : Type} {enc : TypeId × Value → H} {w : World} {base : Nat} {spare : Nat → Bool} {held : Bool}
theorem script_opened {A : Option Addr} {len cap fuel : Nat} {x : DataW H × List MemPlace} (h : DataW.trod enc Try.prog w base spare held fuel 27 (Value.slice A len cap).cells.toList = some x) :
    ∃ L : List Act5, Script w A L ∧ len = L.length ∧ len ≤ maxLen ∧ ∀ a ∈ L, okAct a := by
  rcases open_slice Try.underlying27 h with ⟨hcs, _⟩ | ⟨a, l, c, m, n, D, Pl, hcs, _, hl, hm, hmm, _, hi⟩
  · simp [Value.cells] at hcs
    obtain ⟨rfl, rfl, rfl⟩ := hcs
    exact ⟨[], .inl rfl, rfl, by simp [maxLen], by simp⟩
  · simp [Value.cells] at hcs
    obtain ⟨rfl, rfl, rfl⟩ := hcs
    have hC : Try.prog.cellsOf 30 = 5 := by kernel_rfl
    have hc3 : Try.prog.cellsOf 3 = 1 := by kernel_rfl
    have hc9 : Try.prog.cellsOf 9 = 1 := by kernel_rfl
    rw [hC] at hi
    have hlm : len ≤ m := by rw [hmm]; split <;> omega
    obtain ⟨L, hL, hp⟩ := list_of (p := fun i (b : Act5) => (w.cell? (a.add (i * 5)) = some (.int .i64 b.kind) ∧ w.cell? (a.add (i * 5 + 1)) = some (.int .i64 b.n) ∧ w.cell? (a.add (i * 5 + 2)) = some (.int .i64 b.least) ∧
      w.cell? (a.add (i * 5 + 3)) = some (.int .i64 b.most) ∧ w.cell? (a.add (i * 5 + 4)) = some (.string b.s)) ∧ okAct b) len (fun i hil => by
        obtain ⟨cs', hc, ht⟩ := hi i (by omega)
        obtain ⟨_, hcl, hat⟩ := World.cells?_some hc
        obtain ⟨ys, n', _, _, _, _, hf⟩ := DataW.trod_struct Try.underlying30 ht
        match cs', hcl with
        | [c0, c1, c2, c3, c4], _ =>
          have f0 : DataW.trod enc Try.prog w base spare held n' 3 ((([c0, c1, c2, c3, c4] : List Value).drop 0).take (Try.prog.cellsOf 3)) = ys[0]? := hf 0 _ rfl
          have f1 : DataW.trod enc Try.prog w base spare held n' 3 ((([c0, c1, c2, c3, c4] : List Value).drop 1).take (Try.prog.cellsOf 3)) = ys[1]? := hf 1 _ rfl
          have f2 : DataW.trod enc Try.prog w base spare held n' 3 ((([c0, c1, c2, c3, c4] : List Value).drop 2).take (Try.prog.cellsOf 3)) = ys[2]? := hf 2 _ rfl
          have f3 : DataW.trod enc Try.prog w base spare held n' 3 ((([c0, c1, c2, c3, c4] : List Value).drop 3).take (Try.prog.cellsOf 3)) = ys[3]? := hf 3 _ rfl
          have f4 : DataW.trod enc Try.prog w base spare held n' 9 ((([c0, c1, c2, c3, c4] : List Value).drop 4).take (Try.prog.cellsOf 9)) = ys[4]? := hf 4 _ rfl
          rw [hc3] at f0 f1 f2 f3
          rw [hc9] at f4
          have g0 := hat 0 (by omega)
          have g1 := hat 1 (by omega)
          have g2 := hat 2 (by omega)
          have g3 := hat 3 (by omega)
          have g4 := hat 4 (by omega)
          rw [add_add] at g0 g1 g2 g3 g4
          have ysl : ys.length = 5 := by assumption
          match ys, ysl with
          | [y0, y1, y2, y3, y4], _ =>
            obtain ⟨z0, e0, _, b0⟩ := DataW.trod_int Try.underlying3 (x := y0) f0
            obtain ⟨z1, e1, _, b1⟩ := DataW.trod_int Try.underlying3 (x := y1) f1
            obtain ⟨z2, e2, _, b2⟩ := DataW.trod_int Try.underlying3 (x := y2) f2
            obtain ⟨z3, e3, _, b3⟩ := DataW.trod_int Try.underlying3 (x := y3) f3
            obtain ⟨z4, e4, _, b4⟩ := DataW.trod_string Try.underlying9 (x := y4) f4
            simp at e0 e1 e2 e3 e4
            subst e0 e1 e2 e3 e4
            exact ⟨⟨z0, z1, z2, z3, z4⟩, ⟨g0, g1, g2, g3, g4⟩, bounds_i64 b1, bounds_i64 b2, bounds_i64 b3, b4⟩)
    refine ⟨L, ?_, hL.symm, by omega, fun b hb => ?_⟩
    · rcases Nat.eq_zero_or_pos len with h0 | h0
      · exact .inl (List.eq_nil_of_length_eq_zero (by omega))
      · obtain ⟨b, off, spot⟩ := a
        have h1 := (hp 0 (by omega)).1.1
        have hs : spot = none := by simpa [Addr.add] using World.cell?_spot h1
        subst hs
        have hadd : ∀ k, (⟨b, off, none⟩ : Addr).add k = ⟨b, off + k, none⟩ := by
          intro k; unfold Addr.add; split
          · rename_i h; subst h; rfl
          · rfl
        refine .inr ⟨b, off, rfl, fun i hi => ?_⟩
        have := (hp i hi).1
        simp only [hadd] at this
        exact this
    · obtain ⟨i, hi, rfl⟩ := List.getElem_of_mem hb
      exact (hp i hi).2
theorem bytes_opened {A : Option Addr} {len cap fuel : Nat} {x : DataW H × List MemPlace} (hu : DataW.trod enc Try.prog w base (fun _ => true) held fuel 28 (Value.slice A len cap).cells.toList = some x) :
    ∃ bs : List Int, Row w A (bs.map (Value.int .u8)) ∧ len ≤ cap ∧ cap ≤ maxLen ∧ len = bs.length ∧ bytes bs ∧ (A = none → cap = 0) := by
  rcases open_ints Try.underlying28 Try.underlying5 (by kernel_rfl) hu with ⟨hcs, _⟩ | ⟨x, l, c, zs, hcs, _, hl, hm, hz, _, hcell, hwz⟩
  · simp [Value.cells] at hcs
    obtain ⟨rfl, rfl, rfl⟩ := hcs
    exact ⟨[], .inl rfl, Nat.le_refl _, by simp [maxLen], rfl, by intro x hx; simp at hx, fun _ => rfl⟩
  · simp [Value.cells] at hcs
    obtain ⟨rfl, rfl, rfl⟩ := hcs
    obtain ⟨ys, h1, h2, h3, h4, h5⟩ := row_opened hl hm hz hcell hwz
    exact ⟨ys, h1, h2, h3, h4.symm, fun z hz => by have := bounds_u8 (h5 z hz); omega, fun h => by cases h⟩
end Go.Proofs.Ytmeheaapfdldeaa
