/- Arguments: an act, a list of acts, bytes. -/
import Derived.Test.YtaahomohhagcoaaP
import Derived.Deep.Strs
import Derived.Deep.Slices
import Derived.ProofKit
import Derived.OpenShut
import Derived.ShutString
import Derived.Lib.SmallJoins
namespace Go.Proofs.Ytaahomohhagcoaa
open Go.ChangeShapes Go.WideShapes Go.ChangeAt Go.RowKit Go.Joins
open Go.Deep (open_slice)
set_option linter.unusedSimpArgs false
set_option linter.unusedVariables false
theorem list_of {α : Type} {p : Nat → α → Prop} : ∀ n : Nat, (∀ i, i < n → ∃ a, p i a) → ∃ L : List α, L.length = n ∧ ∀ i (h : i < L.length), p i L[i] := by
  intro n
  induction n with
  | zero => intro _; exact ⟨[], rfl, by simp⟩
  | succ n ih =>
    intro h
    obtain ⟨L, h1, h2⟩ := ih (fun i hi => h i (by omega))
    obtain ⟨a, ha⟩ := h n (by omega)
    refine ⟨L ++ [a], by simp [h1], fun i hi => ?_⟩
    by_cases hl : i < L.length
    · rw [List.getElem_append_left hl]; exact h2 i hl
    · have : i = n := by simp at hi; omega
      subst this
      rw [List.getElem_append_right (by omega)]
      simpa using ha
def encA (x : Act5) : List Value := [.int .i64 x.kind, .int .i64 x.n, .string x.a, .string x.z, .slice x.A x.nb x.cb]
def cellsA (L : List Act5) : List Value := L.flatMap encA
theorem cellsA_cons (x : Act5) (L : List Act5) : cellsA (x :: L) = encA x ++ cellsA L := by simp [cellsA]
theorem cellsA_length : ∀ L : List Act5, (cellsA L).length = L.length * 5 := by
  intro L
  induction L with
  | nil => rfl
  | cons z L ih => rw [cellsA_cons, List.length_append, ih, List.length_cons]; simp [encA]; omega
theorem cellsA_get : ∀ (L : List Act5) (k : Nat) (h : k < L.length) (j : Nat) (u : Value), (encA L[k])[j]? = some u → (cellsA L)[k * 5 + j]? = some u := by
  intro L
  induction L with
  | nil => intro k h; simp at h
  | cons z L ih =>
    intro k h j u hu
    have hj : j < 5 := by
      rcases Nat.lt_or_ge j 5 with h | h
      · exact h
      · rw [List.getElem?_eq_none (by simpa [encA] using h)] at hu; cases hu
    rw [cellsA_cons]
    cases k with
    | zero => rw [List.getElem?_append_left (by simp [encA]; omega)]; simpa using hu
    | succ k =>
      rw [List.getElem?_append_right (by simp [encA]; omega)]
      have e : (k + 1) * 5 + j - (encA z).length = k * 5 + j := by simp [encA]; omega
      rw [e]
      exact ih k (by simpa using h) j u (by simpa using hu)
/-- The cells of one act of a list. -/
theorem act_cells {w : World} {A : Option Addr} {L : List Act5} (h : Row w A (cellsA L)) {k : Nat} (hk : k < L.length) :
    ∃ b off, A = some ⟨b, off, none⟩ ∧ w.cell? ⟨b, off + k * 5, none⟩ = some (.int .i64 L[k].kind) ∧ w.cell? ⟨b, off + k * 5 + 1, none⟩ = some (.int .i64 L[k].n) ∧ w.cell? ⟨b, off + k * 5 + 2, none⟩ = some (.string L[k].a) ∧ w.cell? ⟨b, off + k * 5 + 3, none⟩ = some (.string L[k].z) ∧ w.cell? ⟨b, off + k * 5 + 4, none⟩ = some (.slice L[k].A L[k].nb L[k].cb) := by
  have g := fun j u hu => cellsA_get L k hk j u hu
  rcases h with h | ⟨b, off, rfl, hc⟩
  · have := cellsA_length L
    rw [h] at this; simp at this; omega
  · refine ⟨b, off, rfl, ?_, ?_, ?_, ?_, ?_⟩
    · exact hc _ _ (g 0 _ rfl)
    · exact hc _ _ (g 1 _ rfl)
    · exact hc _ _ (g 2 _ rfl)
    · exact hc _ _ (g 3 _ rfl)
    · exact hc _ _ (g 4 _ rfl)
section
variable {H : Type} {enc : TypeId × Value → H} {w : World} {base : Nat} {held : Bool}
theorem bytes_opened {v : Value} {fuel : Nat} {x : DataW H × List MemPlace} (hu : DataW.trod enc Try.prog w base (fun _ => true) held fuel 31 [v] = some x) :
    ∃ (A : Option Addr) (n c : Nat) (bs : List Int), v = .slice A n c ∧ ArgB w w.heap.size A n c bs := by
  rcases open_ints Try.underlying31 Try.underlying5 (by kernel_rfl) hu with ⟨hcs, _⟩ | ⟨x, l, c, zs, hcs, _, hl, hm, hz, _, hcell, hwz⟩
  · simp at hcs
    exact ⟨none, 0, 0, [], hcs, .inl rfl, rfl, Nat.le_refl _, fun _ => rfl, (fun x hx => by cases hx), by omega, fun h => absurd rfl h⟩
  · simp at hcs
    obtain ⟨ys, h1, h2, h3, h4, h5⟩ := row_opened hl hm hz hcell hwz
    refine ⟨some x, l, c, ys, hcs, h1, h4.symm, h2, (fun h => by cases h), (fun z hz => by have := bounds_u8 (h5 z hz); omega), by unfold maxLen at h3; omega, fun hne b o e => ?_⟩
    rcases h1 with h1 | ⟨b', o', e', hc⟩
    · exact absurd (by simpa using h1) hne
    · rw [e'] at e
      cases e
      cases ys with
      | nil => exact absurd rfl hne
      | cons y ys => exact lt_of_cell (hc 0 _ rfl)
set_option maxRecDepth 100000 in
theorem act_opened5 {c0 c1 c2 c3 c4 : Value} {fuel : Nat} {x : DataW H × List MemPlace} (h : DataW.trod enc Try.prog w base (fun _ => true) held fuel 33 [c0, c1, c2, c3, c4] = some x) :
    ∃ z : Act5, [c0, c1, c2, c3, c4] = encA z ∧ OkAct w w.heap.size z := by
  have hc3 : Try.prog.cellsOf 3 = 1 := by kernel_rfl
  have hc9 : Try.prog.cellsOf 9 = 1 := by kernel_rfl
  have hc31 : Try.prog.cellsOf 31 = 1 := by kernel_rfl
  obtain ⟨ys, n', _, _, _, ysl, hf⟩ := DataW.trod_struct Try.underlying33 h
  have f0 : DataW.trod enc Try.prog w base (fun _ => true) held n' 3 ((([c0, c1, c2, c3, c4] : List Value).drop 0).take (Try.prog.cellsOf 3)) = ys[0]? := hf 0 _ rfl
  have f1 : DataW.trod enc Try.prog w base (fun _ => true) held n' 3 ((([c0, c1, c2, c3, c4] : List Value).drop 1).take (Try.prog.cellsOf 3)) = ys[1]? := hf 1 _ rfl
  have f2 : DataW.trod enc Try.prog w base (fun _ => true) held n' 9 ((([c0, c1, c2, c3, c4] : List Value).drop 2).take (Try.prog.cellsOf 9)) = ys[2]? := hf 2 _ rfl
  have f3 : DataW.trod enc Try.prog w base (fun _ => true) held n' 9 ((([c0, c1, c2, c3, c4] : List Value).drop 3).take (Try.prog.cellsOf 9)) = ys[3]? := hf 3 _ rfl
  have f4 : DataW.trod enc Try.prog w base (fun _ => true) held n' 31 ((([c0, c1, c2, c3, c4] : List Value).drop 4).take (Try.prog.cellsOf 31)) = ys[4]? := hf 4 _ rfl
  rw [hc3] at f0 f1
  rw [hc9] at f2 f3
  rw [hc31] at f4
  have ysl' : ys.length = 5 := ysl
  match ys, ysl' with
  | [y0, y1, y2, y3, y4], _ =>
    obtain ⟨k, e0, _, b0⟩ := DataW.trod_int Try.underlying3 (x := y0) f0
    obtain ⟨n, e1, _, b1⟩ := DataW.trod_int Try.underlying3 (x := y1) f1
    obtain ⟨a, e2, _, b2⟩ := DataW.trod_string Try.underlying9 (x := y2) f2
    obtain ⟨z, e3, _, b3⟩ := DataW.trod_string Try.underlying9 (x := y3) f3
    obtain ⟨A, nb, cb, bs, e4, hB⟩ := bytes_opened (x := y4) (by simpa using f4)
    simp at e0 e1 e2 e3
    subst e0 e1 e2 e3 e4
    have hb := bounds_i64 b1
    exact ⟨⟨k, n, a, z, A, nb, cb, bs⟩, rfl, hb.1, hb.2, by unfold maxLen at b2; omega, by unfold maxLen at b3; omega, hB⟩
set_option maxRecDepth 100000 in
theorem act_opened {r : Reach} {b0 : Nat} {v : Value} {d : DataW H} {p : List MemPlace} (hv : Value.okWide Try.prog w r b0 33 v) (h : DataW.Trod enc Try.prog w base (fun _ => true) held 33 v d p) :
    ∃ z : Act5, v = z.val ∧ OkAct w w.heap.size z := by
  have hC : Try.prog.cellsOf 33 = 5 := by kernel_rfl
  obtain ⟨cs, rfl, hsz⟩ := okWide_struct Try.underlying33 hv
  obtain ⟨fuel, hf⟩ := h
  have hs4 : cs.toList.length = 5 := by have := hsz.trans hC; simpa using this
  obtain ⟨l, hcl⟩ : ∃ l, l = cs.toList := ⟨_, rfl⟩
  have hca : cs = l.toArray := by rw [hcl]
  rw [← hcl] at hs4
  subst hca
  match l, hs4 with
  | [a0, a1, a2, a3, a4], _ =>
    obtain ⟨z0, e0, g0⟩ := act_opened5 (c0 := a0) (c1 := a1) (c2 := a2) (c3 := a3) (c4 := a4) (by simpa [Value.cells] using hf)
    exact ⟨z0, by rw [e0]; rfl, g0⟩
set_option maxRecDepth 100000 in
theorem acts_opened {v : Value} {fuel : Nat} {x : DataW H × List MemPlace} (h : DataW.trod enc Try.prog w base (fun _ => true) held fuel 22 [v] = some x) :
    ∃ (L : List Act5) (A : Option Addr) (len cap : Nat), v = .slice A len cap ∧ Row w A (cellsA L) ∧ (∀ z ∈ L, OkAct w w.heap.size z) ∧ len = L.length ∧ len ≤ 9223372036854775807 ∧ len ≤ cap := by
  rcases open_slice Try.underlying22 h with ⟨hcs, _⟩ | ⟨a, len, cap, m, n, D, Pl, hcs, _, hl, hm, hmm, _, hi⟩
  · simp at hcs
    exact ⟨[], none, 0, 0, hcs, .inl rfl, (fun z hz => by cases hz), rfl, by omega, by omega⟩
  · simp at hcs
    have hC : Try.prog.cellsOf 33 = 5 := by kernel_rfl
    rw [hC] at hi
    have hlm : len ≤ m := by rw [hmm]; split <;> omega
    obtain ⟨L, hL, hp⟩ := list_of (p := fun i (b : Act5) => (w.cell? (a.add (i * 5)) = some (.int .i64 b.kind) ∧ w.cell? (a.add (i * 5 + 1)) = some (.int .i64 b.n) ∧ w.cell? (a.add (i * 5 + 2)) = some (.string b.a) ∧ w.cell? (a.add (i * 5 + 3)) = some (.string b.z) ∧ w.cell? (a.add (i * 5 + 4)) = some (.slice b.A b.nb b.cb)) ∧ OkAct w w.heap.size b) len (fun i hil => by
        obtain ⟨cs', hc, ht⟩ := hi i (by omega)
        obtain ⟨_, hcl, hat⟩ := World.cells?_some hc
        match cs', hcl with
        | [c0, c1, c2, c3, c4], _ =>
          obtain ⟨z, ez, gz⟩ := act_opened5 ht
          have g0 := hat 0 (by omega)
          have g1 := hat 1 (by omega)
          have g2 := hat 2 (by omega)
          have g3 := hat 3 (by omega)
          have g4 := hat 4 (by omega)
          rw [Go.Deep.add_add] at g0 g1 g2 g3 g4
          simp only [encA, List.cons.injEq, and_true] at ez
          obtain ⟨rfl, rfl, rfl, rfl, rfl⟩ := ez
          exact ⟨z, ⟨g0, g1, g2, g3, g4⟩, gz⟩)
    refine ⟨L, some a, len, cap, hcs, ?_, ?_, hL.symm, by unfold maxLen at hm; omega, hl⟩
    · rcases Nat.eq_zero_or_pos len with h0 | h0
      · exact .inl (by rw [List.eq_nil_of_length_eq_zero (by omega : L.length = 0)]; rfl)
      · obtain ⟨b, off, spot⟩ := a
        have h1 := (hp 0 (by omega)).1.1
        have hs : spot = none := by simpa [Addr.add] using World.cell?_spot h1
        subst hs
        have hadd : ∀ k, (⟨b, off, none⟩ : Addr).add k = ⟨b, off + k, none⟩ := by
          intro k; unfold Addr.add; split
          · rename_i h; subst h; rfl
          · rfl
        refine .inr ⟨b, off, rfl, fun j u hu => ?_⟩
        have hjl : j < L.length * 5 := by
          rcases Nat.lt_or_ge j (L.length * 5) with h | h
          · exact h
          · rw [List.getElem?_eq_none (by rw [cellsA_length]; omega)] at hu; cases hu
        have hk : j / 5 < L.length := by omega
        have hq := (hp (j / 5) hk).1
        simp only [hadd] at hq
        obtain ⟨q0, q1, q2, q3, q4⟩ := hq
        have e0 := cellsA_get L (j / 5) hk 0 _ rfl
        have e1 := cellsA_get L (j / 5) hk 1 _ rfl
        have e2 := cellsA_get L (j / 5) hk 2 _ rfl
        have e3 := cellsA_get L (j / 5) hk 3 _ rfl
        have e4 := cellsA_get L (j / 5) hk 4 _ rfl
        rcases (by omega : j = j / 5 * 5 + 0 ∨ j = j / 5 * 5 + 1 ∨ j = j / 5 * 5 + 2 ∨ j = j / 5 * 5 + 3 ∨ j = j / 5 * 5 + 4) with h | h | h | h | h
        · rw [h] at hu ⊢; rw [e0] at hu; cases hu; exact q0
        · rw [h] at hu ⊢; rw [e1] at hu; cases hu; exact q1
        · rw [h] at hu ⊢; rw [e2] at hu; cases hu; exact q2
        · rw [h] at hu ⊢; rw [e3] at hu; cases hu; exact q3
        · rw [h] at hu ⊢; rw [e4] at hu; cases hu; exact q4
    · intro z hz
      obtain ⟨i, hi', rfl⟩ := List.getElem_of_mem hz
      exact (hp i hi').2
end
end Go.Proofs.Ytaahomohhagcoaa
