/- Arguments that are rows, opened. -/
import Derived.Test.YtkfcpmmiimpkbaaRN
import Derived.Deep.Strs
import Derived.Deep.Slices
import Derived.ProofKit
import Derived.OpenShut
import Derived.ShutString
import Derived.Lib.SmallJoins
namespace Go.Proofs.Ytkfcpmmiimpkbaa
open Go.ChangeShapes Go.WideShapes Go.ChangeAt Go.RowKit Go.Joins
open Go.Deep (open_slice)
set_option linter.unusedSimpArgs false
set_option linter.unusedVariables false
theorem list_of {α : Type} {p : Nat → α → Prop} : ∀ n : Nat, (∀ i, i < n → ∃ a, p i a) → ∃ L : List α, L.length = n ∧ ∀ i (h : i < L.length), p i L[i] := by
  intro n
  induction n with
  | zero => intro _; exact ⟨[], rfl, by simp⟩
  | succ n ih =>
    intro h
    obtain ⟨L, h1, h2⟩ := ih (fun i hi => h i (by omega))
    obtain ⟨a, ha⟩ := h n (by omega)
    refine ⟨L ++ [a], by simp [h1], fun i hi => ?_⟩
    by_cases hl : i < L.length
    · rw [List.getElem_append_left hl]; exact h2 i hl
    · have : i = n := by simp at hi; omega
      subst this
      rw [List.getElem_append_right (by omega)]
      simpa using ha
section
variable {H : Type} {enc : TypeId × Value → H} {w : World} {base : Nat} {spare : Nat → Bool} {held : Bool}
def Strs (w : World) (v : Value) (L : List ByteArray) : Prop :=
  ∃ A n c, v = .slice A n c ∧ Row w A (texts L) ∧ n = L.length ∧ n ≤ c ∧ c ≤ 9223372036854775807 ∧ (∀ s ∈ L, s.size ≤ 9223372036854775807) ∧ (A = none → c = 0)
theorem strs_opened {v : Value} {fuel : Nat} {x : DataW H × List MemPlace} (h : DataW.trod enc Try.prog w base spare held fuel 22 [v] = some x) : ∃ L, Strs w v L := by
  rcases Go.Deep.open_strs Try.underlying22 Try.underlying9 (by kernel_rfl) h with ⟨hcs, _⟩ | ⟨a, len, cap, m, Sx, hcs, _, hl, hm, hmm, _, hx⟩
  · simp at hcs
    exact ⟨[], none, 0, 0, hcs, .inl rfl, rfl, by omega, by omega, by simp, fun _ => rfl⟩
  · simp at hcs
    have hlm : len ≤ m := by rw [hmm]; split <;> omega
    refine ⟨(List.range len).map Sx, some a, len, cap, hcs, ?_, by simp, hl, by unfold maxLen at hm; omega, ?_, fun h => by cases h⟩
    · rcases Nat.eq_zero_or_pos len with h0 | h0
      · subst h0; exact .inl rfl
      · obtain ⟨b, off, spot⟩ := a
        have h1 := (hx 0 (by omega)).1
        have hs : spot = none := by simpa [Addr.add] using World.cell?_spot h1
        subst hs
        refine .inr ⟨b, off, rfl, fun j u hu => ?_⟩
        unfold texts at hu
        rw [List.map_map] at hu
        have hj : j < len := by
          rcases Nat.lt_or_ge j len with h | h
          · exact h
          · rw [List.getElem?_eq_none (by simpa using h)] at hu; cases hu
        rw [List.getElem?_map, List.getElem?_range hj] at hu
        simp at hu
        rw [← hu, ← (hx j (by omega)).1]
        congr 1
        unfold Addr.add
        split
        · rename_i h; subst h; rfl
        · rfl
    · intro s hs
      obtain ⟨i, hi, rfl⟩ := List.mem_map.1 hs
      have := (hx i (by have := List.mem_range.1 hi; omega)).2
      unfold maxLen at this; exact this
theorem ints_opened {v : Value} {fuel : Nat} {x : DataW H × List MemPlace} (h : DataW.trod enc Try.prog w base (fun _ => true) held fuel 52 [v] = some x) :
    ∃ (X : List Int) (A : Option Addr) (n c : Nat), v = .slice A n c ∧ Row w A (X.map (Value.int .i64)) ∧ n = X.length ∧ n ≤ c ∧ c ≤ 9223372036854775807 ∧ ∀ x ∈ X, (Lit.int .i64 x).wf = true := by
  rcases open_ints Try.underlying52 Try.underlying3 (by kernel_rfl) h with ⟨hcs, _⟩ | ⟨x, l, c, zs, hcs, _, hl, hm, hz, _, hcell, hwz⟩
  · simp at hcs
    exact ⟨[], none, 0, 0, hcs, .inl rfl, rfl, by omega, by omega, by simp⟩
  · simp at hcs
    obtain ⟨ys, h1, h2, h3, h4, h5⟩ := row_opened hl hm hz hcell hwz
    exact ⟨ys, some x, l, c, hcs, h1, h4.symm, h2, by unfold maxLen at h3; omega, h5⟩
set_option maxRecDepth 100000 in
theorem aggs_opened {v : Value} {fuel : Nat} {x : DataW H × List MemPlace} (h : DataW.trod enc Try.prog w base spare held fuel 43 [v] = some x) :
    ∃ (L : List Ag) (A : Option Addr) (len cap : Nat), v = .slice A len cap ∧ Row w A (cellsG L) ∧ len = L.length ∧ len ≤ 9223372036854775807 ∧ len ≤ cap ∧ (A = none → cap = 0) := by
  rcases open_slice Try.underlying43 h with ⟨hcs, _⟩ | ⟨a, len, cap, m, n, D, Pl, hcs, _, hl, hm, hmm, _, hi⟩
  · simp at hcs
    exact ⟨[], none, 0, 0, hcs, .inl rfl, rfl, by omega, by omega, fun _ => rfl⟩
  · simp at hcs
    have hC : Try.prog.cellsOf 66 = 3 := by kernel_rfl
    have hc3 : Try.prog.cellsOf 3 = 1 := by kernel_rfl
    rw [hC] at hi
    have hlm : len ≤ m := by rw [hmm]; split <;> omega
    obtain ⟨L, hL, hp⟩ := list_of (p := fun i (b : Ag) => (w.cell? (a.add (i * 3)) = some (.int .i64 b.1) ∧ w.cell? (a.add (i * 3 + 1)) = some (.int .i64 b.2.1) ∧ w.cell? (a.add (i * 3 + 2)) = some (.int .i64 b.2.2))) len (fun i hil => by
        obtain ⟨cs', hc, ht⟩ := hi i (by omega)
        obtain ⟨_, hcl, hat⟩ := World.cells?_some hc
        obtain ⟨ys, n', _, _, _, _, hf⟩ := DataW.trod_struct Try.underlying66 ht
        match cs', hcl with
        | [c0, c1, c2], _ =>
          have f0 : DataW.trod enc Try.prog w base spare held n' 3 ((([c0, c1, c2] : List Value).drop 0).take (Try.prog.cellsOf 3)) = ys[0]? := hf 0 _ rfl
          have f1 : DataW.trod enc Try.prog w base spare held n' 3 ((([c0, c1, c2] : List Value).drop 1).take (Try.prog.cellsOf 3)) = ys[1]? := hf 1 _ rfl
          have f2 : DataW.trod enc Try.prog w base spare held n' 3 ((([c0, c1, c2] : List Value).drop 2).take (Try.prog.cellsOf 3)) = ys[2]? := hf 2 _ rfl
          rw [hc3] at f0 f1 f2
          have g0 := hat 0 (by omega)
          have g1 := hat 1 (by omega)
          have g2 := hat 2 (by omega)
          rw [Go.Deep.add_add] at g0 g1 g2
          have ysl : ys.length = 3 := by assumption
          match ys, ysl with
          | [y0, y1, y2], _ =>
            obtain ⟨z0, e0, _, b0⟩ := DataW.trod_int Try.underlying3 (x := y0) f0
            obtain ⟨z1, e1, _, b1⟩ := DataW.trod_int Try.underlying3 (x := y1) f1
            obtain ⟨z2, e2, _, b2⟩ := DataW.trod_int Try.underlying3 (x := y2) f2
            simp at e0 e1 e2
            subst e0 e1 e2
            exact ⟨(z0, z1, z2), g0, g1, g2⟩)
    refine ⟨L, some a, len, cap, hcs, ?_, hL.symm, by unfold maxLen at hm; omega, hl, fun h => by cases h⟩
    rcases Nat.eq_zero_or_pos len with h0 | h0
    · exact .inl (by rw [List.eq_nil_of_length_eq_zero (by omega : L.length = 0)]; rfl)
    · obtain ⟨b, off, spot⟩ := a
      have h1 := (hp 0 (by omega)).1
      have hs : spot = none := by simpa [Addr.add] using World.cell?_spot h1
      subst hs
      have hadd : ∀ k, (⟨b, off, none⟩ : Addr).add k = ⟨b, off + k, none⟩ := by
        intro k; unfold Addr.add; split
        · rename_i h; subst h; rfl
        · rfl
      refine .inr ⟨b, off, rfl, fun j u hu => ?_⟩
      have hjl : j < L.length * 3 := by
        rcases Nat.lt_or_ge j (L.length * 3) with h | h
        · exact h
        · rw [List.getElem?_eq_none (by rw [cellsG_length]; omega)] at hu; cases hu
      have hk : j / 3 < L.length := by omega
      have hq := hp (j / 3) hk
      simp only [hadd] at hq
      obtain ⟨q0, q1, q2⟩ := hq
      obtain ⟨e0, e1, e2⟩ := cellsG_get L (j / 3) hk
      rcases (by omega : j = j / 3 * 3 ∨ j = j / 3 * 3 + 1 ∨ j = j / 3 * 3 + 2) with h | h | h
      · rw [h] at hu ⊢; rw [e0] at hu; cases hu; exact q0
      · rw [h] at hu ⊢; rw [e1] at hu; cases hu; exact q1
      · rw [h] at hu ⊢; rw [e2] at hu; cases hu; exact q2
theorem row_opened4 {c0 c1 c2 c3 : Value} {fuel : Nat} {x : DataW H × List MemPlace} (h : DataW.trod enc Try.prog w base spare held fuel 45 [c0, c1, c2, c3] = some x) :
    ∃ z : RZ, [c0, c1, c2, c3] = encR z ∧ Good0 w z ∧ (∀ s ∈ z.2.dims, s.size ≤ 9223372036854775807) := by
  have hc3 : Try.prog.cellsOf 3 = 1 := by kernel_rfl
  have hc22 : Try.prog.cellsOf 22 = 1 := by kernel_rfl
  have hc25 : Try.prog.cellsOf 43 = 1 := by kernel_rfl
  obtain ⟨ys, n', _, _, _, ysl, hf⟩ := DataW.trod_struct Try.underlying45 h
  have f0 : DataW.trod enc Try.prog w base spare held n' 3 ((([c0, c1, c2, c3] : List Value).drop 0).take (Try.prog.cellsOf 3)) = ys[0]? := hf 0 _ rfl
  have f1 : DataW.trod enc Try.prog w base spare held n' 22 ((([c0, c1, c2, c3] : List Value).drop 1).take (Try.prog.cellsOf 22)) = ys[1]? := hf 1 _ rfl
  have f2 : DataW.trod enc Try.prog w base spare held n' 3 ((([c0, c1, c2, c3] : List Value).drop 2).take (Try.prog.cellsOf 3)) = ys[2]? := hf 2 _ rfl
  have f3 : DataW.trod enc Try.prog w base spare held n' 43 ((([c0, c1, c2, c3] : List Value).drop 3).take (Try.prog.cellsOf 43)) = ys[3]? := hf 3 _ rfl
  rw [hc3] at f0 f2
  rw [hc22] at f1
  rw [hc25] at f3
  have ysl' : ys.length = 4 := ysl
  match ys, ysl' with
  | [y0, y1, y2, y3], _ =>
    obtain ⟨t, e0, _, _⟩ := DataW.trod_int Try.underlying3 (x := y0) f0
    obtain ⟨u, e2, _, _⟩ := DataW.trod_int Try.underlying3 (x := y2) f2
    obtain ⟨L, D, n, c, e1, hr, hn, hnc, hc, hs, ha⟩ := strs_opened (x := y1) (by simpa using f1)
    obtain ⟨X, G, gn, gc, e3, hg, hgn, hgb, hgc, hga⟩ := aggs_opened (x := y3) (by simpa using f3)
    simp at e0 e2
    subst e0 e1 e2 e3
    exact ⟨(⟨D, n, c, G, gn, gc⟩, ⟨t, L, u, X⟩), rfl, ⟨hr, hn, hnc, ha, by show n ≤ _; omega, hg, hgn, hgc, hga, hgb⟩, hs⟩
end
end Go.Proofs.Ytkfcpmmiimpkbaa
