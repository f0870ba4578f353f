/- An argument that is a list of lists of rows. -/
import Derived.Test.YtbccjkjibffbkaaMM
import Derived.Test.YtbccjkjibffbkaaKI
namespace Go.Proofs.Ytbccjkjibffbkaa
open Go.ChangeShapes Go.WideShapes Go.ChangeAt Go.RowKit Go.Joins Go.Shelf
open Go.Deep (open_slice)
set_option linter.unusedSimpArgs false
set_option linter.unusedVariables false
section
variable {H : Type} {enc : TypeId × Value → H} {w : World} {base : Nat} {spare : Nat → Bool} {held : Bool}
theorem rows_opened2 {v : Value} {fuel : Nat} {x : DataW H × List MemPlace} (h : DataW.trod enc Try.prog w base spare held fuel 28 [v] = some x) :
    ∃ (L : List RZ) (A : Option Addr) (len cap : Nat), v = .slice A len cap ∧ Row w A (cellsR L) ∧ (∀ z ∈ L, Good0 w z ∧ ∀ s ∈ z.2.dims, s.size ≤ 9223372036854775807) ∧ len = L.length ∧ len ≤ 9223372036854775807 ∧ len ≤ cap ∧ (A = none → cap = 0) ∧ cap ≤ 9223372036854775807 := by
  rcases open_slice Try.underlying28 h with ⟨hcs, _⟩ | ⟨a, len, cap, m, n, D, Pl, hcs, _, hl, hm, hmm, _, hi⟩
  · simp at hcs
    exact ⟨[], none, 0, 0, hcs, .inl rfl, (fun z hz => by cases hz), rfl, by omega, by omega, (fun _ => rfl), by omega⟩
  · simp at hcs
    have hC : Try.prog.cellsOf 39 = 4 := by kernel_rfl
    rw [hC] at hi
    have hlm : len ≤ m := by rw [hmm]; split <;> omega
    obtain ⟨L, hL, hp⟩ := list_of (p := fun i (b : RZ) => ((w.cell? (a.add (i * 4)) = some (.int .i64 b.2.t) ∧ w.cell? (a.add (i * 4 + 1)) = some (.slice b.1.D b.1.n b.1.c) ∧ w.cell? (a.add (i * 4 + 2)) = some (.int .i64 b.2.count) ∧ w.cell? (a.add (i * 4 + 3)) = some (.slice b.1.G b.1.gn b.1.gc)) ∧ Good0 w b ∧ ∀ s ∈ b.2.dims, s.size ≤ 9223372036854775807)) len (fun i hil => by
        obtain ⟨cs', hc, ht⟩ := hi i (by omega)
        obtain ⟨_, hcl, hat⟩ := World.cells?_some hc
        match cs', hcl with
        | [c0, c1, c2, c3], _ =>
          obtain ⟨z, ez, gz, sz⟩ := row_opened4 ht
          have g0 := hat 0 (by omega)
          have g1 := hat 1 (by omega)
          have g2 := hat 2 (by omega)
          have g3 := hat 3 (by omega)
          rw [Go.Deep.add_add] at g0 g1 g2 g3
          simp only [encR, List.cons.injEq, and_true] at ez
          obtain ⟨rfl, rfl, rfl, rfl⟩ := ez
          exact ⟨z, ⟨g0, g1, g2, g3⟩, gz, sz⟩)
    refine ⟨L, some a, len, cap, hcs, ?_, ?_, hL.symm, by unfold maxLen at hm; omega, hl, (fun h => by cases h), by unfold maxLen at hm; omega⟩
    · rcases Nat.eq_zero_or_pos len with h0 | h0
      · exact .inl (by rw [List.eq_nil_of_length_eq_zero (by omega : L.length = 0)]; rfl)
      · obtain ⟨b, off, spot⟩ := a
        have h1 := (hp 0 (by omega)).1.1
        have hs : spot = none := by simpa [Addr.add] using World.cell?_spot h1
        subst hs
        have hadd : ∀ k, (⟨b, off, none⟩ : Addr).add k = ⟨b, off + k, none⟩ := by
          intro k; unfold Addr.add; split
          · rename_i h; subst h; rfl
          · rfl
        refine .inr ⟨b, off, rfl, fun j u hu => ?_⟩
        have hjl : j < L.length * 4 := by
          rcases Nat.lt_or_ge j (L.length * 4) with h | h
          · exact h
          · rw [List.getElem?_eq_none (by rw [cellsR_length]; omega)] at hu; cases hu
        have hk : j / 4 < L.length := by omega
        have hq := (hp (j / 4) hk).1
        simp only [hadd] at hq
        obtain ⟨q0, q1, q2, q3⟩ := hq
        have e0 := cellsR_get L (j / 4) hk 0 _ rfl
        have e1 := cellsR_get L (j / 4) hk 1 _ rfl
        have e2 := cellsR_get L (j / 4) hk 2 _ rfl
        have e3 := cellsR_get L (j / 4) hk 3 _ rfl
        rcases (by omega : j = j / 4 * 4 + 0 ∨ j = j / 4 * 4 + 1 ∨ j = j / 4 * 4 + 2 ∨ j = j / 4 * 4 + 3) with h | h | h | h
        · rw [h] at hu ⊢; rw [e0] at hu; cases hu; exact q0
        · rw [h] at hu ⊢; rw [e1] at hu; cases hu; exact q1
        · rw [h] at hu ⊢; rw [e2] at hu; cases hu; exact q2
        · rw [h] at hu ⊢; rw [e3] at hu; cases hu; exact q3
    · intro z hz
      obtain ⟨i, hi', rfl⟩ := List.getElem_of_mem hz
      exact (hp i hi').2
theorem ls_opened {v : Value} {fuel : Nat} {x : DataW H × List MemPlace} (h : DataW.trod enc Try.prog w base spare held fuel 25 [v] = some x) :
    ∃ (L : List Le) (A : Option Addr) (len cap : Nat), v = .slice A len cap ∧ Ls0 w A L ∧ len = L.length ∧ len ≤ 9223372036854775807 ∧ len ≤ cap ∧ (A = none → cap = 0) ∧ cap ≤ 9223372036854775807 := by
  rcases open_slice Try.underlying25 h with ⟨hcs, _⟩ | ⟨a, len, cap, m, n, D, Pl, hcs, _, hl, hm, hmm, _, hi⟩
  · simp at hcs
    exact ⟨[], none, 0, 0, hcs, ⟨.inl rfl, fun z hz => absurd hz List.not_mem_nil⟩, rfl, by omega, by omega, (fun _ => rfl), by omega⟩
  · simp at hcs
    have hC : Try.prog.cellsOf 28 = 1 := by kernel_rfl
    rw [hC] at hi
    have hlm : len ≤ m := by rw [hmm]; split <;> omega
    obtain ⟨L, hL, hp⟩ := list_of (p := fun i (b : Le) => w.cell? (a.add (i * 1)) = some (encE b) ∧ Le0 w b) len (fun i hil => by
        obtain ⟨cs', hc, ht⟩ := hi i (by omega)
        obtain ⟨_, hcl, hat⟩ := World.cells?_some hc
        match cs', hcl with
        | [c0], _ =>
          obtain ⟨L, A, ln, cp, rfl, hr, hg, hln, hmx, hcp, hnil, hcx⟩ := rows_opened2 ht
          have g0 := hat 0 (by omega)
          rw [Go.Deep.add_add] at g0
          exact ⟨⟨A, ln, cp, L⟩, g0, hr, fun z hz => (hg z hz).1, hln, hcp, hcx, hnil, fun z hz => (hg z hz).2⟩)
    refine ⟨L, some a, len, cap, hcs, ⟨?_, ?_⟩, hL.symm, by unfold maxLen at hm; omega, hl, (fun h => by cases h), by unfold maxLen at hm; omega⟩
    · rcases Nat.eq_zero_or_pos len with h0 | h0
      · exact .inl (by rw [List.eq_nil_of_length_eq_zero (by omega : L.length = 0)]; rfl)
      · obtain ⟨b, off, spot⟩ := a
        have h1 := (hp 0 (by omega)).1
        have hs : spot = none := by simpa [Addr.add] using World.cell?_spot h1
        subst hs
        have hadd : ∀ k, (⟨b, off, none⟩ : Addr).add k = ⟨b, off + k, none⟩ := by
          intro k; unfold Addr.add; split
          · rename_i h; subst h; rfl
          · rfl
        refine .inr ⟨b, off, rfl, fun j u hu => ?_⟩
        rw [List.getElem?_map] at hu
        obtain ⟨y, hy, rfl⟩ := Option.map_eq_some_iff.1 hu
        obtain ⟨hj, rfl⟩ := List.getElem?_eq_some_iff.1 hy
        have h2 := (hp j hj).1
        rw [hadd, Nat.mul_one] at h2
        exact h2
    · intro z hz
      obtain ⟨i, hi', rfl⟩ := List.getElem_of_mem hz
      exact (hp i hi').2
end
end Go.Proofs.Ytbccjkjibffbkaa
