/- Arguments: lists of texts, of numbers, entries. -/
import Derived.Test.YthogafecplhckaaDoorNH
import Derived.OpenShut
import Derived.ShutString
import Derived.ProofKit
import Derived.Deep.OwnRows
import Derived.Deep.Strs
import Derived.Deep.Slices
import Derived.Lib.SmallJoins
namespace Go.Proofs.YthogafecplhckaaDoor
open Go.ChangeShapes Go.WideShapes Go.ChangeAt Go.RowKit Go.Joins
open Go.Deep (open_slice)
set_option linter.unusedSimpArgs false
set_option linter.unusedVariables false
theorem list_of {α : Type} {p : Nat → α → Prop} : ∀ n : Nat, (∀ i, i < n → ∃ a, p i a) → ∃ L : List α, L.length = n ∧ ∀ i (h : i < L.length), p i L[i] := by
  intro n
  induction n with
  | zero => intro _; exact ⟨[], rfl, by simp⟩
  | succ n ih =>
    intro h
    obtain ⟨L, h1, h2⟩ := ih (fun i hi => h i (by omega))
    obtain ⟨a, ha⟩ := h n (by omega)
    refine ⟨L ++ [a], by simp [h1], fun i hi => ?_⟩
    by_cases hl : i < L.length
    · rw [List.getElem_append_left hl]; exact h2 i hl
    · have : i = n := by simp at hi; omega
      subst this
      rw [List.getElem_append_right (by omega)]
      simpa using ha
section
variable {H : Type} {enc : TypeId × Value → H} {w : World} {base : Nat} {spare : Nat → Bool} {held : Bool}
def Strs (w : World) (v : Value) (L : List ByteArray) : Prop :=
  ∃ A n c, v = .slice A n c ∧ Row w A (texts L) ∧ n = L.length ∧ n ≤ c ∧ c ≤ 9223372036854775807 ∧ (∀ s ∈ L, s.size ≤ 9223372036854775807) ∧ (A = none → c = 0)
theorem strs_opened {v : Value} {fuel : Nat} {x : DataW H × List MemPlace} (h : DataW.trod enc Tryd.prog w base spare held fuel 22 [v] = some x) : ∃ L, Strs w v L := by
  rcases Go.Deep.open_strs Tryd.underlying22 Tryd.underlying9 (by kernel_rfl) h with ⟨hcs, _⟩ | ⟨a, len, cap, m, Sx, hcs, _, hl, hm, hmm, _, hx⟩
  · simp at hcs
    exact ⟨[], none, 0, 0, hcs, .inl rfl, rfl, by omega, by omega, by simp, fun _ => rfl⟩
  · simp at hcs
    have hlm : len ≤ m := by rw [hmm]; split <;> omega
    refine ⟨(List.range len).map Sx, some a, len, cap, hcs, ?_, by simp, hl, by unfold maxLen at hm; omega, ?_, fun h => by cases h⟩
    · rcases Nat.eq_zero_or_pos len with h0 | h0
      · subst h0; exact .inl rfl
      · obtain ⟨b, off, spot⟩ := a
        have h1 := (hx 0 (by omega)).1
        have hs : spot = none := by simpa [Addr.add] using World.cell?_spot h1
        subst hs
        refine .inr ⟨b, off, rfl, fun j u hu => ?_⟩
        unfold texts at hu
        rw [List.map_map] at hu
        have hj : j < len := by
          rcases Nat.lt_or_ge j len with h | h
          · exact h
          · rw [List.getElem?_eq_none (by simpa using h)] at hu; cases hu
        rw [List.getElem?_map, List.getElem?_range hj] at hu
        simp at hu
        rw [← hu, ← (hx j (by omega)).1]
        congr 1
        unfold Addr.add
        split
        · rename_i h; subst h; rfl
        · rfl
    · intro s hs
      obtain ⟨i, hi, rfl⟩ := List.mem_map.1 hs
      have := (hx i (by have := List.mem_range.1 hi; omega)).2
      unfold maxLen at this; exact this
end
section
variable {H : Type} {enc : TypeId × Value → H} {w : World} {base : Nat} {held : Bool}
theorem ints_opened2 {v : Value} {fuel : Nat} {x : DataW H × List MemPlace} (h : DataW.trod enc Tryd.prog w base (fun _ => true) held fuel 42 [v] = some x) :
    ∃ (X : List Int) (A : Option Addr) (n c : Nat), v = .slice A n c ∧ Row w A (X.map (Value.int .i64)) ∧ n = X.length ∧ n ≤ c ∧ c ≤ 9223372036854775807 ∧ (∀ x ∈ X, (Lit.int .i64 x).wf = true) ∧ (A = none → c = 0) := by
  rcases open_ints Tryd.underlying42 Tryd.underlying3 (by kernel_rfl) h with ⟨hcs, _⟩ | ⟨x, l, c, zs, hcs, _, hl, hm, hz, _, hcell, hwz⟩
  · simp at hcs
    exact ⟨[], none, 0, 0, hcs, .inl rfl, rfl, by omega, by omega, by simp, fun _ => rfl⟩
  · simp at hcs
    obtain ⟨ys, h1, h2, h3, h4, h5⟩ := row_opened hl hm hz hcell hwz
    exact ⟨ys, some x, l, c, hcs, h1, h4.symm, h2, by unfold maxLen at h3; omega, h5, fun h => by cases h⟩
structure EntB (z : EZ) : Prop where
  p : z.ev.p ≤ 9223372036854775807
  x : z.ev.x ≤ 9223372036854775807
theorem sized2 {a b : EZ} (ha : EntB a) (hb : EntB b) : ∀ z ∈ [a, b], z.ev.p ≤ 9223372036854775807 ∧ z.ev.x ≤ 9223372036854775807 := fun z hz => by
  rcases List.mem_cons.1 hz with rfl | hz
  · exact ⟨ha.p, ha.x⟩
  · rw [List.mem_singleton.1 hz]; exact ⟨hb.p, hb.x⟩
theorem ent_opened5 {c0 c1 c2 c3 c4 : Value} {fuel : Nat} {x : DataW H × List MemPlace} (h : DataW.trod enc Tryd.prog w base (fun _ => true) held fuel 46 [c0, c1, c2, c3, c4] = some x) :
    ∃ z : EZ, [c0, c1, c2, c3, c4] = encEnt z ∧ EvG w z.ev ∧ EntB z := by
  have hc3 : Tryd.prog.cellsOf 3 = 1 := by kernel_rfl
  have hc4 : Tryd.prog.cellsOf 4 = 1 := by kernel_rfl
  have hc22 : Tryd.prog.cellsOf 22 = 1 := by kernel_rfl
  have hc42 : Tryd.prog.cellsOf 42 = 1 := by kernel_rfl
  have hc44 : Tryd.prog.cellsOf 44 = 3 := by kernel_rfl
  obtain ⟨ys, n', _, _, _, ysl, hf⟩ := DataW.trod_struct Tryd.underlying46 h
  have f0 : DataW.trod enc Tryd.prog w base (fun _ => true) held n' 4 ((([c0, c1, c2, c3, c4] : List Value).drop 0).take (Tryd.prog.cellsOf 4)) = ys[0]? := hf 0 _ rfl
  have f1 : DataW.trod enc Tryd.prog w base (fun _ => true) held n' 3 ((([c0, c1, c2, c3, c4] : List Value).drop 1).take (Tryd.prog.cellsOf 3)) = ys[1]? := hf 1 _ rfl
  have f2 : DataW.trod enc Tryd.prog w base (fun _ => true) held n' 44 ((([c0, c1, c2, c3, c4] : List Value).drop 2).take (Tryd.prog.cellsOf 44)) = ys[2]? := hf 2 _ rfl
  rw [hc4] at f0
  rw [hc3] at f1
  rw [hc44] at f2
  have ysl' : ys.length = 3 := ysl
  match ys, ysl' with
  | [y0, y1, y2], _ =>
    obtain ⟨tk, e0, _⟩ := DataW.trod_bool Tryd.underlying4 (x := y0) f0
    obtain ⟨nw, e1, _, _⟩ := DataW.trod_int Tryd.underlying3 (x := y1) f1
    have f2' : DataW.trod enc Tryd.prog w base (fun _ => true) held n' 44 [c2, c3, c4] = some y2 := by simpa using f2
    obtain ⟨zs, n2, _, _, _, zsl, hg⟩ := DataW.trod_struct Tryd.underlying44 f2'
    have g0 : DataW.trod enc Tryd.prog w base (fun _ => true) held n2 3 ((([c2, c3, c4] : List Value).drop 0).take (Tryd.prog.cellsOf 3)) = zs[0]? := hg 0 _ rfl
    have g1 : DataW.trod enc Tryd.prog w base (fun _ => true) held n2 22 ((([c2, c3, c4] : List Value).drop 1).take (Tryd.prog.cellsOf 22)) = zs[1]? := hg 1 _ rfl
    have g2 : DataW.trod enc Tryd.prog w base (fun _ => true) held n2 42 ((([c2, c3, c4] : List Value).drop 2).take (Tryd.prog.cellsOf 42)) = zs[2]? := hg 2 _ rfl
    rw [hc3] at g0
    rw [hc22] at g1
    rw [hc42] at g2
    have zsl' : zs.length = 3 := zsl
    match zs, zsl' with
    | [u0, u1, u2], _ =>
      obtain ⟨t, e2, _, _⟩ := DataW.trod_int Tryd.underlying3 (x := u0) g0
      obtain ⟨L, D, n, c, e3, hr, hn, hnc, hc, hs, ha⟩ := strs_opened (x := u1) (by simpa using g1)
      obtain ⟨X, G, gn, gc, e4, hgr, hgn, hgc, hgb, _, _⟩ := ints_opened2 (x := u2) (by simpa using g2)
      simp at e0 e1 e2
      subst e0 e1 e2 e3 e4
      exact ⟨⟨tk, nw, ⟨D, n, c, G, gn, gc, t, L, X⟩⟩, rfl, ⟨hr, hn, hnc, ha, hgr, hgn, hs⟩, ⟨by show n ≤ _; omega, by show gn ≤ _; omega⟩⟩
theorem ents_opened {v : Value} {fuel : Nat} {x : DataW H × List MemPlace} (h : DataW.trod enc Tryd.prog w base (fun _ => true) held fuel 33 [v] = some x) :
    ∃ (L : List EZ) (A : Option Addr) (len cap : Nat), v = .slice A len cap ∧ EntsC w A L ∧ (∀ z ∈ L, EntB z) ∧ len = L.length ∧ len ≤ 9223372036854775807 ∧ len ≤ cap := by
  rcases open_slice Tryd.underlying33 h with ⟨hcs, _⟩ | ⟨a, len, cap, m, n, D, Pl, hcs, _, hl, hm, hmm, _, hi⟩
  · simp at hcs
    exact ⟨[], none, 0, 0, hcs, ⟨.inl rfl, (fun z hz => by cases hz)⟩, (fun z hz => by cases hz), rfl, by omega, by omega⟩
  · simp at hcs
    have hC : Tryd.prog.cellsOf 46 = 5 := by kernel_rfl
    rw [hC] at hi
    have hlm : len ≤ m := by rw [hmm]; split <;> omega
    obtain ⟨L, hL, hp⟩ := list_of (p := fun i (b : EZ) => ((w.cell? (a.add (i * 5)) = some (.bool b.tick) ∧ w.cell? (a.add (i * 5 + 1)) = some (.int .i64 b.now) ∧ w.cell? (a.add (i * 5 + 2)) = some (.int .i64 b.ev.t) ∧ w.cell? (a.add (i * 5 + 3)) = some (.slice b.ev.E b.ev.p b.ev.q) ∧ w.cell? (a.add (i * 5 + 4)) = some (.slice b.ev.F b.ev.x b.ev.y)) ∧ EvG w b.ev ∧ EntB b)) len (fun i hil => by
        obtain ⟨cs', hc, ht⟩ := hi i (by omega)
        obtain ⟨_, hcl, hat⟩ := World.cells?_some hc
        match cs', hcl with
        | [c0, c1, c2, c3, c4], _ =>
          obtain ⟨z, ez, gz, sz⟩ := ent_opened5 ht
          have g0 := hat 0 (by omega)
          have g1 := hat 1 (by omega)
          have g2 := hat 2 (by omega)
          have g3 := hat 3 (by omega)
          have g4 := hat 4 (by omega)
          rw [Go.Deep.add_add] at g0 g1 g2 g3 g4
          simp only [encEnt, List.cons.injEq, and_true] at ez
          obtain ⟨rfl, rfl, rfl, rfl, rfl⟩ := ez
          exact ⟨z, ⟨g0, g1, g2, g3, g4⟩, gz, sz⟩)
    refine ⟨L, some a, len, cap, hcs, ⟨?_, ?_⟩, ?_, hL.symm, by unfold maxLen at hm; omega, hl⟩
    · rcases Nat.eq_zero_or_pos len with h0 | h0
      · exact .inl (by rw [List.eq_nil_of_length_eq_zero (by omega : L.length = 0)]; rfl)
      · obtain ⟨b, off, spot⟩ := a
        have h1 := (hp 0 (by omega)).1.1
        have hs : spot = none := by simpa [Addr.add] using World.cell?_spot h1
        subst hs
        have hadd : ∀ k, (⟨b, off, none⟩ : Addr).add k = ⟨b, off + k, none⟩ := by
          intro k; unfold Addr.add; split
          · rename_i h; subst h; rfl
          · rfl
        refine .inr ⟨b, off, rfl, fun j u hu => ?_⟩
        have hjl : j < L.length * 5 := by
          rcases Nat.lt_or_ge j (L.length * 5) with h | h
          · exact h
          · rw [List.getElem?_eq_none (by rw [cellsJ_length]; omega)] at hu; cases hu
        have hk : j / 5 < L.length := by omega
        have hq := (hp (j / 5) hk).1
        simp only [hadd] at hq
        obtain ⟨q0, q1, q2, q3, q4⟩ := hq
        have e0 := cellsJ_get L (j / 5) hk 0 _ rfl
        have e1 := cellsJ_get L (j / 5) hk 1 _ rfl
        have e2 := cellsJ_get L (j / 5) hk 2 _ rfl
        have e3 := cellsJ_get L (j / 5) hk 3 _ rfl
        have e4 := cellsJ_get L (j / 5) hk 4 _ rfl
        rcases (by omega : j = j / 5 * 5 + 0 ∨ j = j / 5 * 5 + 1 ∨ j = j / 5 * 5 + 2 ∨ j = j / 5 * 5 + 3 ∨ j = j / 5 * 5 + 4) with h | h | h | h | h
        · rw [h] at hu ⊢; rw [e0] at hu; cases hu; exact q0
        · rw [h] at hu ⊢; rw [e1] at hu; cases hu; exact q1
        · rw [h] at hu ⊢; rw [e2] at hu; cases hu; exact q2
        · rw [h] at hu ⊢; rw [e3] at hu; cases hu; exact q3
        · rw [h] at hu ⊢; rw [e4] at hu; cases hu; exact q4
    · intro z hz
      obtain ⟨i, hi', rfl⟩ := List.getElem_of_mem hz
      exact (hp i hi').2.1
    · intro z hz
      obtain ⟨i, hi', rfl⟩ := List.getElem_of_mem hz
      exact (hp i hi').2.2
set_option maxRecDepth 100000 in
theorem ent2_opened {r : Reach} {b0 : Nat} {v : Value} {d : DataW H} {p : List MemPlace} (hv : Value.okWide Tryd.prog w r b0 50 v) (h : DataW.Trod enc Tryd.prog w base (fun _ => true) held 50 v d p) :
    ∃ z0 z1 : EZ, v = .agg #[.bool z0.tick, .int .i64 z0.now, .int .i64 z0.ev.t, .slice z0.ev.E z0.ev.p z0.ev.q, .slice z0.ev.F z0.ev.x z0.ev.y, .bool z1.tick, .int .i64 z1.now, .int .i64 z1.ev.t, .slice z1.ev.E z1.ev.p z1.ev.q, .slice z1.ev.F z1.ev.x z1.ev.y] ∧ (EvG w z0.ev ∧ EntB z0) ∧ (EvG w z1.ev ∧ EntB z1) := by
  have hC : Tryd.prog.cellsOf 50 = 10 := by kernel_rfl
  have hc46 : Tryd.prog.cellsOf 46 = 5 := by kernel_rfl
  simp only [Value.okWide, Tryd.underlying50] at hv
  obtain ⟨cs, rfl, hsz, _⟩ := hv
  obtain ⟨fuel, hf⟩ := h
  obtain ⟨xs, m, _, _, _, hl, hi⟩ := DataW.trod_array Tryd.underlying50 hf
  have hs10 : cs.toList.length = 10 := by have := hsz.trans hC; simpa using this
  obtain ⟨l, hcl⟩ : ∃ l, l = cs.toList := ⟨_, rfl⟩
  have hca : cs = l.toArray := by rw [hcl]
  rw [← hcl] at hs10
  subst hca
  match l, hs10 with
  | [a0, a1, a2, a3, a4, a5, a6, a7, a8, a9], _ =>
    match xs, hl with
    | [y0, y1], _ =>
      have h0 := hi 0 (by omega)
      have h1 := hi 1 (by omega)
      rw [hc46] at h0 h1
      obtain ⟨z0, e0, g0, s0⟩ := ent_opened5 (x := y0) (c0 := a0) (c1 := a1) (c2 := a2) (c3 := a3) (c4 := a4) (by simpa [Value.cells] using h0)
      obtain ⟨z1, e1, g1, s1⟩ := ent_opened5 (x := y1) (c0 := a5) (c1 := a6) (c2 := a7) (c3 := a8) (c4 := a9) (by simpa [Value.cells] using h1)
      simp only [encEnt, List.cons.injEq, and_true] at e0 e1
      obtain ⟨rfl, rfl, rfl, rfl, rfl⟩ := e0
      obtain ⟨rfl, rfl, rfl, rfl, rfl⟩ := e1
      exact ⟨z0, z1, rfl, ⟨g0, s0⟩, ⟨g1, s1⟩⟩
end
end Go.Proofs.YthogafecplhckaaDoor
