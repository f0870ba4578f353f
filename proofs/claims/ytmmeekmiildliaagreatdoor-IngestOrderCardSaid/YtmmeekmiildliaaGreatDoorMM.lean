/- The live question. What lists of rows are gone through. Arguments that are rows, opened. -/
import Derived.Test.YtmmeekmiildliaaGreatDoorML
import Derived.Deep.Strs
import Derived.Deep.Slices
import Derived.ProofKit
import Derived.OpenShut
import Derived.ShutString
import Derived.Lib.SmallJoins
namespace Go.Proofs.YtmmeekmiildliaaGreatDoor
open Go.RowKit
set_option linter.unusedSimpArgs false
set_option linter.unusedVariables false
def rowX4 (s : ByteArray) (n : Int) : RV := ⟨4, [s], 1, [(n, n, n)]⟩
theorem of_one (A B : Option Addr) (s : ByteArray) (n : Int) (a wa : World) (hwa : wa = (a.alloc (.cells #[.string s] 9)).alloc (.cells #[.int .i64 n] 3)) (hs : s.size ≤ 24 ∧ ∀ i, (h : i < s.size) → wrongV (s[i]'h).toNat = false) (hn : -4611686018427387904 ≤ n ∧ n ≤ 4611686018427387904) :
    Calls Tryz.prog 43 #[.agg #[.slice A 1 1, .slice B 1 1], .agg #[.int .i64 4, .slice (some ⟨a.heap.size, 0, none⟩) 1 1, .slice (some ⟨a.heap.size + 1, 0, none⟩) 1 1]] wa (JoinPost wa (rowX4 s n, 0)) := by
  have h := of_any A B (some ⟨a.heap.size, 0, none⟩) (some ⟨a.heap.size + 1, 0, none⟩) 1 1 1 1 1 1 1 1 4 [⟨#[97]⟩] [⟨#[109]⟩] [s] [n] wa
    (by rw [hwa]; exact (Row.made rfl rfl : Row (a.alloc (.cells #[.string s] 9)) (some ⟨a.heap.size, 0, none⟩) (texts [s])).keep (Nat.le_refl _) (bpush (Below.refl _ _) _))
    (by rw [hwa]; exact Row.made (by simp) rfl) rfl rfl rfl rfl (by intro u hu; rw [List.mem_singleton.1 hu]; omega) (Nat.le_refl _) (by intro h; cases h) (by omega) (by omega) 0
    (.inr (.inr ⟨rfl, rfl, .inr (.inr ⟨by intro u hu; rw [List.mem_singleton.1 hu]; exact hs, by intro u hu; rw [List.mem_singleton.1 hu]; unfold greatZ; omega, .inr (.inr ⟨by omega, by omega, rfl⟩)⟩)⟩))
  have e : ofR 4 [s] [n] 0 = (rowX4 s n, 0) := by
    have hf : fit1 n = true := fit1_iff.2 hn
    unfold ofR onesG rowX4
    rw [if_pos rfl, List.map_cons, List.map_nil, oneA_yes hf]; rfl
  rwa [e] at h
theorem folds_three : foldL [rowX4 ⟨#[]⟩ 0, rowX4 ⟨#[118]⟩ 7, rowX4 ⟨#[118]⟩ (-2)] = ([rowX4 ⟨#[]⟩ 0, ⟨4, [⟨#[118]⟩], 2, [(5, -2, 7)]⟩], 0) := by kernel_rfl
theorem sorts_three : SortsTo [rowX4 ⟨#[118]⟩ 7, rowX4 ⟨#[118]⟩ (-2), rowX4 ⟨#[]⟩ 0] [rowX4 ⟨#[]⟩ 0, rowX4 ⟨#[118]⟩ 7, rowX4 ⟨#[118]⟩ (-2)] := by
  have h1 : cmpV (rowX4 ⟨#[]⟩ 0) (rowX4 ⟨#[118]⟩ 7) = -1 := by decide +kernel
  have h2 : ∀ m n, cmpV (rowX4 ⟨#[118]⟩ m) (rowX4 ⟨#[118]⟩ n) = 0 := fun m n => cmpV_zero.2 ⟨rfl, rfl⟩
  have h3 : ∀ m, cmpV (rowX4 ⟨#[]⟩ 0) (rowX4 ⟨#[118]⟩ m) = -1 := fun m => (cmpV_right (h2 m 7) _).trans h1
  constructor
  · refine List.Pairwise.cons ?_ (List.Pairwise.cons ?_ (List.Pairwise.cons ?_ List.Pairwise.nil))
    · intro b hb
      simp only [List.mem_cons, List.not_mem_nil, or_false] at hb
      rcases hb with rfl | rfl <;> rw [h3] <;> decide
    · intro b hb
      rw [List.mem_singleton.1 hb, h2]; exact Int.le_refl _
    · intro b hb; cases hb
  · intro k
    simp only [List.filter_cons, List.filter_nil]
    by_cases e1 : keyV k (rowX4 ⟨#[]⟩ 0) = true
    · have e2 : ∀ m, keyV k (rowX4 ⟨#[118]⟩ m) = false := fun m => by
        rw [Bool.eq_false_iff, ne_eq, keyV_true, cmpV_left (keyV_true.1 e1), h3]; decide
      simp [e1, e2]
    · simp [e1]
end Go.Proofs.YtmmeekmiildliaaGreatDoor
namespace Go.Proofs.YtmmeekmiildliaaGreatDoor
open Go.RowKit
set_option linter.unusedSimpArgs false
set_option linter.unusedVariables false
/-- What the cells lead to is the row; of its lists' sizes nothing but that they are numbers. -/
structure Good0 (w : World) (z : RZ) : Prop where
  rd : Row w z.1.D (texts z.2.dims)
  nd : z.1.n = z.2.dims.length
  cd : z.1.n ≤ z.1.c
  ad : z.1.D = none → z.1.c = 0
  sd : z.1.n ≤ 9223372036854775807
  rg : Row w z.1.G (cellsG z.2.aggs)
  ng : z.1.gn = z.2.aggs.length
  cg : z.1.gn ≤ z.1.gc
  ag : z.1.G = none → z.1.gc = 0
  sg : z.1.gn ≤ 9223372036854775807
theorem Good0.keep {w w' : World} {z : RZ} (h : Good0 w z) (hb : Below w.heap.size w w') : Good0 w' z :=
  { h with rd := h.rd.keep (Nat.le_refl _) hb, rg := h.rg.keep (Nat.le_refl _) hb }
theorem Good0.good {w : World} {z : RZ} (h : Good0 w z) (h1 : z.2.dims.length ≤ 1000000) (h2 : z.2.aggs.length ≤ 1000000) : Good w z :=
  { h with sd := by have := h.nd; omega, sg := by have := h.ng; omega }
theorem rowsM0 {w : World} {A : Option Addr} {Z : List RZ} (h : Row w A (cellsR Z)) (hg0 : ∀ z ∈ Z, Good0 w z) : RowsM w A (Z.map Prod.snd) := by
  rcases Nat.eq_zero_or_pos Z.length with h0 | h0
  · exact .inl (by rw [List.eq_nil_of_length_eq_zero h0]; rfl)
  · obtain ⟨b, off, e, _⟩ := row4 h h0
    refine .inr ⟨b, off, e, fun i hi => ?_⟩
    have hi' : i < Z.length := by simpa using hi
    obtain ⟨b', off', e', c0, c1, c2, c3⟩ := row4 h hi'
    rw [e] at e'; cases e'
    have hg := hg0 _ (List.getElem_mem hi')
    have q : (Z.map Prod.snd)[i] = Z[i].2 := by simp
    rw [q]
    exact ⟨_, _, _, _, _, _, c0, c1, c2, c3, hg.rd, hg.nd, hg.sd, hg.rg, hg.ng, hg.sg⟩
/-- Rows such as are gone through. -/
def fitsRows (L M : List ByteArray) (Z : List RV) : Prop := fitsP L ∧ fitsP M ∧ Z.length ≤ 120 ∧ rightP L M ∧ ∀ z ∈ Z, rowOk L.length M.length z.t z.count z.dims z.aggs
end Go.Proofs.YtmmeekmiildliaaGreatDoor
namespace Go.Proofs.YtmmeekmiildliaaGreatDoor
open Go.ChangeShapes Go.WideShapes Go.ChangeAt Go.RowKit Go.Joins
open Go.Deep (open_slice)
set_option linter.unusedSimpArgs false
set_option linter.unusedVariables false
theorem list_of {α : Type} {p : Nat → α → Prop} : ∀ n : Nat, (∀ i, i < n → ∃ a, p i a) → ∃ L : List α, L.length = n ∧ ∀ i (h : i < L.length), p i L[i] := by
  intro n
  induction n with
  | zero => intro _; exact ⟨[], rfl, by simp⟩
  | succ n ih =>
    intro h
    obtain ⟨L, h1, h2⟩ := ih (fun i hi => h i (by omega))
    obtain ⟨a, ha⟩ := h n (by omega)
    refine ⟨L ++ [a], by simp [h1], fun i hi => ?_⟩
    by_cases hl : i < L.length
    · rw [List.getElem_append_left hl]; exact h2 i hl
    · have : i = n := by simp at hi; omega
      subst this
      rw [List.getElem_append_right (by omega)]
      simpa using ha
section
variable {H : Type} {enc : TypeId × Value → H} {w : World} {base : Nat} {spare : Nat → Bool} {held : Bool}
def Strs (w : World) (v : Value) (L : List ByteArray) : Prop :=
  ∃ A n c, v = .slice A n c ∧ Row w A (texts L) ∧ n = L.length ∧ n ≤ c ∧ c ≤ 9223372036854775807 ∧ (∀ s ∈ L, s.size ≤ 9223372036854775807) ∧ (A = none → c = 0)
theorem strs_opened {v : Value} {fuel : Nat} {x : DataW H × List MemPlace} (h : DataW.trod enc Tryz.prog w base spare held fuel 22 [v] = some x) : ∃ L, Strs w v L := by
  rcases Go.Deep.open_strs Tryz.underlying22 Tryz.underlying9 (by kernel_rfl) h with ⟨hcs, _⟩ | ⟨a, len, cap, m, Sx, hcs, _, hl, hm, hmm, _, hx⟩
  · simp at hcs
    exact ⟨[], none, 0, 0, hcs, .inl rfl, rfl, by omega, by omega, by simp, fun _ => rfl⟩
  · simp at hcs
    have hlm : len ≤ m := by rw [hmm]; split <;> omega
    refine ⟨(List.range len).map Sx, some a, len, cap, hcs, ?_, by simp, hl, by unfold maxLen at hm; omega, ?_, fun h => by cases h⟩
    · rcases Nat.eq_zero_or_pos len with h0 | h0
      · subst h0; exact .inl rfl
      · obtain ⟨b, off, spot⟩ := a
        have h1 := (hx 0 (by omega)).1
        have hs : spot = none := by simpa [Addr.add] using World.cell?_spot h1
        subst hs
        refine .inr ⟨b, off, rfl, fun j u hu => ?_⟩
        unfold texts at hu
        rw [List.map_map] at hu
        have hj : j < len := by
          rcases Nat.lt_or_ge j len with h | h
          · exact h
          · rw [List.getElem?_eq_none (by simpa using h)] at hu; cases hu
        rw [List.getElem?_map, List.getElem?_range hj] at hu
        simp at hu
        rw [← hu, ← (hx j (by omega)).1]
        congr 1
        unfold Addr.add
        split
        · rename_i h; subst h; rfl
        · rfl
    · intro s hs
      obtain ⟨i, hi, rfl⟩ := List.mem_map.1 hs
      have := (hx i (by have := List.mem_range.1 hi; omega)).2
      unfold maxLen at this; exact this
theorem ints_opened {v : Value} {fuel : Nat} {x : DataW H × List MemPlace} (h : DataW.trod enc Tryz.prog w base (fun _ => true) held fuel 25 [v] = some x) :
    ∃ (X : List Int) (A : Option Addr) (n c : Nat), v = .slice A n c ∧ Row w A (X.map (Value.int .i64)) ∧ n = X.length ∧ n ≤ c ∧ c ≤ 9223372036854775807 ∧ ∀ x ∈ X, (Lit.int .i64 x).wf = true := by
  rcases open_ints Tryz.underlying25 Tryz.underlying3 (by kernel_rfl) h with ⟨hcs, _⟩ | ⟨x, l, c, zs, hcs, _, hl, hm, hz, _, hcell, hwz⟩
  · simp at hcs
    exact ⟨[], none, 0, 0, hcs, .inl rfl, rfl, by omega, by omega, by simp⟩
  · simp at hcs
    obtain ⟨ys, h1, h2, h3, h4, h5⟩ := row_opened hl hm hz hcell hwz
    exact ⟨ys, some x, l, c, hcs, h1, h4.symm, h2, by unfold maxLen at h3; omega, h5⟩
set_option maxRecDepth 100000 in
theorem aggs_opened {v : Value} {fuel : Nat} {x : DataW H × List MemPlace} (h : DataW.trod enc Tryz.prog w base spare held fuel 57 [v] = some x) :
    ∃ (L : List Ag) (A : Option Addr) (len cap : Nat), v = .slice A len cap ∧ Row w A (cellsG L) ∧ len = L.length ∧ len ≤ 9223372036854775807 ∧ len ≤ cap ∧ (A = none → cap = 0) := by
  rcases open_slice Tryz.underlying57 h with ⟨hcs, _⟩ | ⟨a, len, cap, m, n, D, Pl, hcs, _, hl, hm, hmm, _, hi⟩
  · simp at hcs
    exact ⟨[], none, 0, 0, hcs, .inl rfl, rfl, by omega, by omega, fun _ => rfl⟩
  · simp at hcs
    have hC : Tryz.prog.cellsOf 64 = 3 := by kernel_rfl
    have hc3 : Tryz.prog.cellsOf 3 = 1 := by kernel_rfl
    rw [hC] at hi
    have hlm : len ≤ m := by rw [hmm]; split <;> omega
    obtain ⟨L, hL, hp⟩ := list_of (p := fun i (b : Ag) => (w.cell? (a.add (i * 3)) = some (.int .i64 b.1) ∧ w.cell? (a.add (i * 3 + 1)) = some (.int .i64 b.2.1) ∧ w.cell? (a.add (i * 3 + 2)) = some (.int .i64 b.2.2))) len (fun i hil => by
        obtain ⟨cs', hc, ht⟩ := hi i (by omega)
        obtain ⟨_, hcl, hat⟩ := World.cells?_some hc
        obtain ⟨ys, n', _, _, _, _, hf⟩ := DataW.trod_struct Tryz.underlying64 ht
        match cs', hcl with
        | [c0, c1, c2], _ =>
          have f0 : DataW.trod enc Tryz.prog w base spare held n' 3 ((([c0, c1, c2] : List Value).drop 0).take (Tryz.prog.cellsOf 3)) = ys[0]? := hf 0 _ rfl
          have f1 : DataW.trod enc Tryz.prog w base spare held n' 3 ((([c0, c1, c2] : List Value).drop 1).take (Tryz.prog.cellsOf 3)) = ys[1]? := hf 1 _ rfl
          have f2 : DataW.trod enc Tryz.prog w base spare held n' 3 ((([c0, c1, c2] : List Value).drop 2).take (Tryz.prog.cellsOf 3)) = ys[2]? := hf 2 _ rfl
          rw [hc3] at f0 f1 f2
          have g0 := hat 0 (by omega)
          have g1 := hat 1 (by omega)
          have g2 := hat 2 (by omega)
          rw [Go.Deep.add_add] at g0 g1 g2
          have ysl : ys.length = 3 := by assumption
          match ys, ysl with
          | [y0, y1, y2], _ =>
            obtain ⟨z0, e0, _, b0⟩ := DataW.trod_int Tryz.underlying3 (x := y0) f0
            obtain ⟨z1, e1, _, b1⟩ := DataW.trod_int Tryz.underlying3 (x := y1) f1
            obtain ⟨z2, e2, _, b2⟩ := DataW.trod_int Tryz.underlying3 (x := y2) f2
            simp at e0 e1 e2
            subst e0 e1 e2
            exact ⟨(z0, z1, z2), g0, g1, g2⟩)
    refine ⟨L, some a, len, cap, hcs, ?_, hL.symm, by unfold maxLen at hm; omega, hl, fun h => by cases h⟩
    rcases Nat.eq_zero_or_pos len with h0 | h0
    · exact .inl (by rw [List.eq_nil_of_length_eq_zero (by omega : L.length = 0)]; rfl)
    · obtain ⟨b, off, spot⟩ := a
      have h1 := (hp 0 (by omega)).1
      have hs : spot = none := by simpa [Addr.add] using World.cell?_spot h1
      subst hs
      have hadd : ∀ k, (⟨b, off, none⟩ : Addr).add k = ⟨b, off + k, none⟩ := by
        intro k; unfold Addr.add; split
        · rename_i h; subst h; rfl
        · rfl
      refine .inr ⟨b, off, rfl, fun j u hu => ?_⟩
      have hjl : j < L.length * 3 := by
        rcases Nat.lt_or_ge j (L.length * 3) with h | h
        · exact h
        · rw [List.getElem?_eq_none (by rw [cellsG_length]; omega)] at hu; cases hu
      have hk : j / 3 < L.length := by omega
      have hq := hp (j / 3) hk
      simp only [hadd] at hq
      obtain ⟨q0, q1, q2⟩ := hq
      obtain ⟨e0, e1, e2⟩ := cellsG_get L (j / 3) hk
      rcases (by omega : j = j / 3 * 3 ∨ j = j / 3 * 3 + 1 ∨ j = j / 3 * 3 + 2) with h | h | h
      · rw [h] at hu ⊢; rw [e0] at hu; cases hu; exact q0
      · rw [h] at hu ⊢; rw [e1] at hu; cases hu; exact q1
      · rw [h] at hu ⊢; rw [e2] at hu; cases hu; exact q2
theorem row_opened4 {c0 c1 c2 c3 : Value} {fuel : Nat} {x : DataW H × List MemPlace} (h : DataW.trod enc Tryz.prog w base spare held fuel 59 [c0, c1, c2, c3] = some x) :
    ∃ z : RZ, [c0, c1, c2, c3] = encR z ∧ Good0 w z ∧ (∀ s ∈ z.2.dims, s.size ≤ 9223372036854775807) := by
  have hc3 : Tryz.prog.cellsOf 3 = 1 := by kernel_rfl
  have hc22 : Tryz.prog.cellsOf 22 = 1 := by kernel_rfl
  have hc25 : Tryz.prog.cellsOf 57 = 1 := by kernel_rfl
  obtain ⟨ys, n', _, _, _, ysl, hf⟩ := DataW.trod_struct Tryz.underlying59 h
  have f0 : DataW.trod enc Tryz.prog w base spare held n' 3 ((([c0, c1, c2, c3] : List Value).drop 0).take (Tryz.prog.cellsOf 3)) = ys[0]? := hf 0 _ rfl
  have f1 : DataW.trod enc Tryz.prog w base spare held n' 22 ((([c0, c1, c2, c3] : List Value).drop 1).take (Tryz.prog.cellsOf 22)) = ys[1]? := hf 1 _ rfl
  have f2 : DataW.trod enc Tryz.prog w base spare held n' 3 ((([c0, c1, c2, c3] : List Value).drop 2).take (Tryz.prog.cellsOf 3)) = ys[2]? := hf 2 _ rfl
  have f3 : DataW.trod enc Tryz.prog w base spare held n' 57 ((([c0, c1, c2, c3] : List Value).drop 3).take (Tryz.prog.cellsOf 57)) = ys[3]? := hf 3 _ rfl
  rw [hc3] at f0 f2
  rw [hc22] at f1
  rw [hc25] at f3
  have ysl' : ys.length = 4 := ysl
  match ys, ysl' with
  | [y0, y1, y2, y3], _ =>
    obtain ⟨t, e0, _, _⟩ := DataW.trod_int Tryz.underlying3 (x := y0) f0
    obtain ⟨u, e2, _, _⟩ := DataW.trod_int Tryz.underlying3 (x := y2) f2
    obtain ⟨L, D, n, c, e1, hr, hn, hnc, hc, hs, ha⟩ := strs_opened (x := y1) (by simpa using f1)
    obtain ⟨X, G, gn, gc, e3, hg, hgn, hgb, hgc, hga⟩ := aggs_opened (x := y3) (by simpa using f3)
    simp at e0 e2
    subst e0 e1 e2 e3
    exact ⟨(⟨D, n, c, G, gn, gc⟩, ⟨t, L, u, X⟩), rfl, ⟨hr, hn, hnc, ha, by show n ≤ _; omega, hg, hgn, hgc, hga, hgb⟩, hs⟩
end
end Go.Proofs.YtmmeekmiildliaaGreatDoor
