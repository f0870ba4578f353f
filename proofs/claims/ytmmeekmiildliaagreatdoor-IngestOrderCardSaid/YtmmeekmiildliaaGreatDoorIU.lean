/- Arguments: lists of numbers, events, lists of events. -/
import Derived.Test.YtmmeekmiildliaaGreatDoorMM
import Derived.Test.YtmmeekmiildliaaGreatDoorIP
namespace Go.Proofs.YtmmeekmiildliaaGreatDoor
open Go.ChangeShapes Go.WideShapes Go.ChangeAt Go.RowKit Go.Joins
open Go.Deep (open_slice)
set_option linter.unusedSimpArgs false
set_option linter.unusedVariables false
section
variable {H : Type} {enc : TypeId × Value → H} {w : World} {base : Nat} {held : Bool}
theorem ints_opened2 {v : Value} {fuel : Nat} {x : DataW H × List MemPlace} (h : DataW.trod enc Tryz.prog w base (fun _ => true) held fuel 25 [v] = some x) :
    ∃ (X : List Int) (A : Option Addr) (n c : Nat), v = .slice A n c ∧ Row w A (X.map (Value.int .i64)) ∧ n = X.length ∧ n ≤ c ∧ c ≤ 9223372036854775807 ∧ (∀ x ∈ X, (Lit.int .i64 x).wf = true) ∧ (A = none → c = 0) := by
  rcases open_ints Tryz.underlying25 Tryz.underlying3 (by kernel_rfl) h with ⟨hcs, _⟩ | ⟨x, l, c, zs, hcs, _, hl, hm, hz, _, hcell, hwz⟩
  · simp at hcs
    exact ⟨[], none, 0, 0, hcs, .inl rfl, rfl, by omega, by omega, by simp, fun _ => rfl⟩
  · simp at hcs
    obtain ⟨ys, h1, h2, h3, h4, h5⟩ := row_opened hl hm hz hcell hwz
    exact ⟨ys, some x, l, c, hcs, h1, h4.symm, h2, by unfold maxLen at h3; omega, h5, fun h => by cases h⟩
structure EvB (z : EV) : Prop where
  p : z.p ≤ 9223372036854775807
  x : z.x ≤ 9223372036854775807
theorem ev_opened3 {c0 c1 c2 : Value} {fuel : Nat} {x : DataW H × List MemPlace} (h : DataW.trod enc Tryz.prog w base (fun _ => true) held fuel 29 [c0, c1, c2] = some x) :
    ∃ z : EV, [c0, c1, c2] = encV z ∧ EvG w z ∧ EvB z := by
  have hc3 : Tryz.prog.cellsOf 3 = 1 := by kernel_rfl
  have hc22 : Tryz.prog.cellsOf 22 = 1 := by kernel_rfl
  have hc25 : Tryz.prog.cellsOf 25 = 1 := by kernel_rfl
  obtain ⟨ys, n', _, _, _, ysl, hf⟩ := DataW.trod_struct Tryz.underlying29 h
  have f0 : DataW.trod enc Tryz.prog w base (fun _ => true) held n' 3 ((([c0, c1, c2] : List Value).drop 0).take (Tryz.prog.cellsOf 3)) = ys[0]? := hf 0 _ rfl
  have f1 : DataW.trod enc Tryz.prog w base (fun _ => true) held n' 22 ((([c0, c1, c2] : List Value).drop 1).take (Tryz.prog.cellsOf 22)) = ys[1]? := hf 1 _ rfl
  have f2 : DataW.trod enc Tryz.prog w base (fun _ => true) held n' 25 ((([c0, c1, c2] : List Value).drop 2).take (Tryz.prog.cellsOf 25)) = ys[2]? := hf 2 _ rfl
  rw [hc3] at f0
  rw [hc22] at f1
  rw [hc25] at f2
  have ysl' : ys.length = 3 := ysl
  match ys, ysl' with
  | [y0, y1, y2], _ =>
    obtain ⟨t, e0, _, _⟩ := DataW.trod_int Tryz.underlying3 (x := y0) f0
    obtain ⟨L, D, n, c, e1, hr, hn, hnc, hc, hs, ha⟩ := strs_opened (x := y1) (by simpa using f1)
    obtain ⟨X, G, gn, gc, e2, hg, hgn, hgc, hgb, _, _⟩ := ints_opened2 (x := y2) (by simpa using f2)
    simp at e0
    subst e0 e1 e2
    exact ⟨⟨D, n, c, G, gn, gc, t, L, X⟩, rfl, ⟨hr, hn, hnc, ha, hg, hgn, hs⟩, ⟨by show n ≤ _; omega, by show gn ≤ _; omega⟩⟩
theorem evs_opened {v : Value} {fuel : Nat} {x : DataW H × List MemPlace} (h : DataW.trod enc Tryz.prog w base (fun _ => true) held fuel 31 [v] = some x) :
    ∃ (L : List EV) (A : Option Addr) (len cap : Nat), v = .slice A len cap ∧ EvsC w A L ∧ (∀ z ∈ L, EvB z) ∧ len = L.length ∧ len ≤ 9223372036854775807 ∧ len ≤ cap := by
  rcases open_slice Tryz.underlying31 h with ⟨hcs, _⟩ | ⟨a, len, cap, m, n, D, Pl, hcs, _, hl, hm, hmm, _, hi⟩
  · simp at hcs
    exact ⟨[], none, 0, 0, hcs, ⟨.inl rfl, (fun z hz => by cases hz)⟩, (fun z hz => by cases hz), rfl, by omega, by omega⟩
  · simp at hcs
    have hC : Tryz.prog.cellsOf 29 = 3 := by kernel_rfl
    rw [hC] at hi
    have hlm : len ≤ m := by rw [hmm]; split <;> omega
    obtain ⟨L, hL, hp⟩ := list_of (p := fun i (b : EV) => ((w.cell? (a.add (i * 3)) = some (.int .i64 b.t) ∧ w.cell? (a.add (i * 3 + 1)) = some (.slice b.E b.p b.q) ∧ w.cell? (a.add (i * 3 + 2)) = some (.slice b.F b.x b.y)) ∧ EvG w b ∧ EvB b)) len (fun i hil => by
        obtain ⟨cs', hc, ht⟩ := hi i (by omega)
        obtain ⟨_, hcl, hat⟩ := World.cells?_some hc
        match cs', hcl with
        | [c0, c1, c2], _ =>
          obtain ⟨z, ez, gz, sz⟩ := ev_opened3 ht
          have g0 := hat 0 (by omega)
          have g1 := hat 1 (by omega)
          have g2 := hat 2 (by omega)
          rw [Go.Deep.add_add] at g0 g1 g2
          simp only [encV, List.cons.injEq, and_true] at ez
          obtain ⟨rfl, rfl, rfl⟩ := ez
          exact ⟨z, ⟨g0, g1, g2⟩, gz, sz⟩)
    refine ⟨L, some a, len, cap, hcs, ⟨?_, ?_⟩, ?_, hL.symm, by unfold maxLen at hm; omega, hl⟩
    · rcases Nat.eq_zero_or_pos len with h0 | h0
      · exact .inl (by rw [List.eq_nil_of_length_eq_zero (by omega : L.length = 0)]; rfl)
      · obtain ⟨b, off, spot⟩ := a
        have h1 := (hp 0 (by omega)).1.1
        have hs : spot = none := by simpa [Addr.add] using World.cell?_spot h1
        subst hs
        have hadd : ∀ k, (⟨b, off, none⟩ : Addr).add k = ⟨b, off + k, none⟩ := by
          intro k; unfold Addr.add; split
          · rename_i h; subst h; rfl
          · rfl
        refine .inr ⟨b, off, rfl, fun j u hu => ?_⟩
        have hjl : j < L.length * 3 := by
          rcases Nat.lt_or_ge j (L.length * 3) with h | h
          · exact h
          · rw [List.getElem?_eq_none (by rw [cellsV_length]; omega)] at hu; cases hu
        have hk : j / 3 < L.length := by omega
        have hq := (hp (j / 3) hk).1
        simp only [hadd] at hq
        obtain ⟨q0, q1, q2⟩ := hq
        have e0 := cellsV_get L (j / 3) hk 0 _ rfl
        have e1 := cellsV_get L (j / 3) hk 1 _ rfl
        have e2 := cellsV_get L (j / 3) hk 2 _ rfl
        rcases (by omega : j = j / 3 * 3 + 0 ∨ j = j / 3 * 3 + 1 ∨ j = j / 3 * 3 + 2) with h | h | h
        · rw [h] at hu ⊢; rw [e0] at hu; cases hu; exact q0
        · rw [h] at hu ⊢; rw [e1] at hu; cases hu; exact q1
        · rw [h] at hu ⊢; rw [e2] at hu; cases hu; exact q2
    · intro z hz
      obtain ⟨i, hi', rfl⟩ := List.getElem_of_mem hz
      exact (hp i hi').2.1
    · intro z hz
      obtain ⟨i, hi', rfl⟩ := List.getElem_of_mem hz
      exact (hp i hi').2.2
end
end Go.Proofs.YtmmeekmiildliaaGreatDoor
