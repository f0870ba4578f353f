/- Arguments opened: texts, a filter, a query. -/
import Derived.Test.YtgaallkdfcckpaaFW
import Derived.Deep.Strs
import Derived.ProofKit
import Derived.OpenShut
import Derived.ShutString
import Derived.Lib.SmallJoins
import Derived.SizedLaws
namespace Go.Proofs.Ytgaallkdfcckpaa
open Go.ChangeShapes Go.WideShapes Go.ChangeAt Go.RowKit Go.Joins
set_option linter.unusedSimpArgs false
set_option linter.unusedVariables false
set_option maxRecDepth 100000
section
variable {H : Type} {enc : TypeId × Value → H} {w : World} {base : Nat} {spare : Nat → Bool} {held : Bool}
def Strs (w : World) (v : Value) (L : List ByteArray) : Prop :=
  ∃ A n c, v = .slice A n c ∧ Row w A (texts L) ∧ n = L.length ∧ n ≤ c ∧ c ≤ 9223372036854775807 ∧ (∀ s ∈ L, s.size ≤ 9223372036854775807) ∧ (A = none → c = 0)
theorem strs_opened {v : Value} {fuel : Nat} {x : DataW H × List MemPlace} (h : DataW.trod enc Try.prog w base spare held fuel 22 [v] = some x) : ∃ L, Strs w v L := by
  rcases Go.Deep.open_strs Try.underlying22 Try.underlying9 (by kernel_rfl) h with ⟨hcs, _⟩ | ⟨a, len, cap, m, Sx, hcs, _, hl, hm, hmm, _, hx⟩
  · simp at hcs
    exact ⟨[], none, 0, 0, hcs, .inl rfl, rfl, by omega, by omega, by simp, fun _ => rfl⟩
  · simp at hcs
    have hlm : len ≤ m := by rw [hmm]; split <;> omega
    refine ⟨(List.range len).map Sx, some a, len, cap, hcs, ?_, by simp, hl, by unfold maxLen at hm; omega, ?_, fun h => by cases h⟩
    · rcases Nat.eq_zero_or_pos len with h0 | h0
      · subst h0; exact .inl rfl
      · obtain ⟨b, off, spot⟩ := a
        have h1 := (hx 0 (by omega)).1
        have hs : spot = none := by simpa [Addr.add] using World.cell?_spot h1
        subst hs
        refine .inr ⟨b, off, rfl, fun j u hu => ?_⟩
        unfold texts at hu
        rw [List.map_map] at hu
        have hj : j < len := by
          rcases Nat.lt_or_ge j len with h | h
          · exact h
          · rw [List.getElem?_eq_none (by simpa using h)] at hu; cases hu
        rw [List.getElem?_map, List.getElem?_range hj] at hu
        simp at hu
        rw [← hu, ← (hx j (by omega)).1]
        congr 1
        unfold Addr.add
        split
        · rename_i h; subst h; rfl
        · rfl
    · intro s hs
      obtain ⟨i, hi, rfl⟩ := List.mem_map.1 hs
      have := (hx i (by have := List.mem_range.1 hi; omega)).2
      unfold maxLen at this; exact this
theorem weights_all {P : Program} {e : TypeId} : ∀ {l : List (DataW H)} {d : DataW H}, d ∈ l → ∀ k ∈ d.weights P e, k ∈ DataW.weightsAll P e l
  | d0 :: l, d, h, k, hk => by
    simp only [DataW.weightsAll, List.mem_append]
    rcases List.mem_cons.1 h with rfl | h
    · exact .inl hk
    · exact .inr (weights_all h k hk)
theorem list_of {α : Type} {p : Nat → α → Prop} : ∀ n : Nat, (∀ i, i < n → ∃ a, p i a) → ∃ L : List α, L.length = n ∧ ∀ i (h : i < L.length), p i L[i] := by
  intro n
  induction n with
  | zero => intro _; exact ⟨[], rfl, by simp⟩
  | succ n ih =>
    intro h
    obtain ⟨L, h1, h2⟩ := ih (fun i hi => h i (by omega))
    obtain ⟨a, ha⟩ := h n (by omega)
    refine ⟨L ++ [a], by simp [h1], fun i hi => ?_⟩
    by_cases hl : i < L.length
    · rw [List.getElem_append_left hl]; exact h2 i hl
    · have : i = n := by simp at hi; omega
      subst this
      rw [List.getElem_append_right (by omega)]
      simpa using ha
theorem add_add' (a : Addr) (i j : Nat) (hs : a.spot = none) : (a.add i).add j = ⟨a.block, a.off + i + j, none⟩ := by
  obtain ⟨b, off, spot⟩ := a
  simp only at hs
  subst hs
  unfold Addr.add
  split
  · rename_i h; subst h
    split
    · rename_i h; subst h; rfl
    · rfl
  · split
    · rename_i h; subst h; rfl
    · rfl
/-- A slice of structs, opened. -/
theorem rows_of {α : Type} (en : α → List Value) (W : Nat) (hW : ∀ x, (en x).length = W) (h0 : 0 < W) {t e : TypeId} (ht : Try.prog.underlying t = some (.slice e)) (hC : Try.prog.cellsOf e = W) (Q : α → Prop)
    {v : Value} {fuel : Nat} {x : DataW H × List MemPlace} (h : DataW.trod enc Try.prog w base spare held fuel t [v] = some x) (hwt : ∀ k ∈ x.1.weights Try.prog t, k ≤ reachBytes)
    (each : ∀ n' cs' y, n' < fuel → DataW.trod enc Try.prog w base spare held n' e cs' = some y → (∀ k ∈ y.1.weights Try.prog e, k ≤ reachBytes) → ∃ a, cs' = en a ∧ Q a) :
    ∃ (L : List α) (A : Option Addr) (n c : Nat), v = .slice A n c ∧ Row w A (L.flatMap en) ∧ n = L.length ∧ n ≤ c ∧ c ≤ 9223372036854775807 ∧ (∀ a ∈ L, Q a) ∧ (A = none → c = 0) := by
  rcases DataW.trod_slice ht h with ⟨hcs, _⟩ | ⟨a, len, cap, elems, rest, n, hfu, hcs, hx, _, hl, hm, hel, hi, _, _⟩
  · simp at hcs
    exact ⟨[], none, 0, 0, hcs, .inl rfl, rfl, by omega, by omega, (fun z hz => by cases hz), fun _ => rfl⟩
  · simp at hcs
    rw [hC] at hi
    obtain ⟨L, hL, hp⟩ := list_of (p := fun i (b : α) => w.cells? base (a.add (i * W)) W = some (en b) ∧ Q b) len (fun i hil => by
      have h1 := hi i hil
      rw [List.getElem?_eq_getElem (by omega)] at h1
      obtain ⟨cs', h2, h3⟩ := Option.bind_eq_some_iff.1 h1
      obtain ⟨b, e1, e2⟩ := each n cs' _ (by omega) h3 (fun k hk => hwt k (by
        rw [hx]
        simp only [DataW.weights, ht, List.mem_cons, List.mem_append]
        exact .inr (.inl (weights_all (List.mem_map.2 ⟨_, List.getElem_mem _, rfl⟩) k hk))))
      exact ⟨b, by rw [h2, e1], e2⟩)
    refine ⟨L, some a, len, cap, hcs, ?_, hL.symm, hl, by unfold maxLen at hm; omega, ?_, fun h => by cases h⟩
    · rcases Nat.eq_zero_or_pos len with h00 | h00
      · exact .inl (by rw [List.eq_nil_of_length_eq_zero (by omega : L.length = 0)]; rfl)
      · have hs : a.spot = none := by
          obtain ⟨_, hcl, hat⟩ := World.cells?_some (hp 0 (by omega)).1
          have h1 := hat 0 h0
          rw [List.getElem?_eq_getElem (by omega)] at h1
          have h2 := World.cell?_spot h1
          obtain ⟨b, off, spot⟩ := a
          simpa [Addr.add] using h2
        refine .inr ⟨a.block, a.off, by obtain ⟨b, off, spot⟩ := a; simp only at hs; subst hs; rfl, fun j u hu => ?_⟩
        have hlen := flat_len en W hW L
        have hjl : j < L.length * W := by
          rcases Nat.lt_or_ge j (L.length * W) with h | h
          · exact h
          · rw [List.getElem?_eq_none (by rw [hlen]; exact h)] at hu; cases hu
        have hk : j / W < L.length := Nat.div_lt_of_lt_mul (by rw [Nat.mul_comm]; exact hjl)
        have hmod : j % W < W := Nat.mod_lt _ h0
        obtain ⟨_, hcl, hat⟩ := World.cells?_some (hp (j / W) hk).1
        have h1 := hat (j % W) hmod
        rw [add_add' a _ _ hs] at h1
        have h2 := flat_get en W hW L (j / W) hk (j % W) (en L[j / W])[j % W] (by rw [List.getElem?_eq_getElem (by rw [hW]; exact hmod)])
        have e1 : j / W * W + j % W = j := by rw [Nat.mul_comm]; exact Nat.div_add_mod j W
        rw [e1, hu] at h2
        rw [Nat.add_assoc, e1] at h1
        rw [h1, List.getElem?_eq_getElem (by rw [hW]; exact hmod)]
        exact h2.symm
    · intro z hz
      obtain ⟨i, hi', rfl⟩ := List.getElem_of_mem hz
      exact (hp i hi').2
theorem filter_opened : ∀ (fuel : Nat) (cs : List Value) (x : DataW H × List MemPlace), DataW.trod enc Try.prog w base spare held fuel 39 cs = some x → (∀ k ∈ x.1.weights Try.prog 39, k ≤ reachBytes) → ∃ f : FT, cs = f.enc ∧ FIn w f := by
  intro fuel
  induction fuel using Nat.strongRecOn with
  | ind fuel ih =>
  intro cs x h hwt
  obtain ⟨xs, n, rfl, hx, hcl, hlen, hf⟩ := DataW.trod_struct Try.underlying39 h
  have k29 : Try.prog.cellsOf 39 = 4 := by kernel_rfl
  have k26 : Try.prog.cellsOf 36 = 1 := by kernel_rfl
  have k9 : Try.prog.cellsOf 9 = 1 := by kernel_rfl
  have k27 : Try.prog.cellsOf 37 = 1 := by kernel_rfl
  rw [k29] at hcl
  match xs, hlen with
  | [y0, y1, y2, y3], _ =>
  match cs, hcl with
  | [c0, c1, c2, c3], _ =>
  have g0 := hf 0 _ rfl
  have g1 := hf 1 _ rfl
  have g2 := hf 2 _ rfl
  have g3 := hf 3 _ rfl
  simp [k26, k9, k27] at g0 g1 g2 g3
  obtain ⟨op, e0, -, -⟩ := DataW.trod_int Try.underlying36 g0
  obtain ⟨s1, e1, d1, m1⟩ := DataW.trod_string Try.underlying9 g1
  obtain ⟨s2, e2, d2, m2⟩ := DataW.trod_string Try.underlying9 g2
  simp at e0 e1 e2
  subst e0 e1 e2
  have hw4 : ∀ k, k ∈ DataW.weights Try.prog 9 y1.1 ∨ k ∈ DataW.weights Try.prog 9 y2.1 ∨ k ∈ DataW.weights Try.prog 37 y3.1 → k ≤ reachBytes := fun k hk => hwt k (by
    rw [hx]
    simp only [DataW.weights, Try.underlying39, List.map_cons, List.map_nil, DataW.weightsEach, List.mem_append]
    rcases hk with hk | hk | hk
    · exact .inr (.inl hk)
    · exact .inr (.inr (.inl hk))
    · exact .inr (.inr (.inr (.inl hk))))
  have z1 : s1.size ≤ 140737488355328 := by
    have := hw4 s1.data.toList.length (.inl (by rw [d1]; simp [DataW.weights]))
    simp [reachBytes] at this
    omega
  have z2 : s2.size ≤ 140737488355328 := by
    have := hw4 s2.data.toList.length (.inr (.inl (by rw [d2]; simp [DataW.weights])))
    simp [reachBytes] at this
    omega
  obtain ⟨L, A, m, c, rfl, hrow, hm, hmc, hc, hL, -⟩ := rows_of FT.enc 4 (fun _ => rfl) (by omega) Try.underlying37 k29 (FIn w) g3 (fun k hk => hw4 k (.inr (.inr hk))) (fun n' cs' y hn' hy hyw => ih n' (by omega) cs' y hy hyw)
  exact ⟨.mk op s1 s2 A m c L, rfl, FIn.of ⟨hrow, hm, hmc, by show m ≤ _; omega, z1, z2⟩ hL⟩
theorem term_opened {n : Nat} {cs : List Value} {x : DataW H × List MemPlace} (h : DataW.trod enc Try.prog w base spare held n 63 cs = some x) : ∃ t : Int × ByteArray, cs = encTm t := by
  obtain ⟨xs, n, rfl, hx, hcl, hlen, hf⟩ := DataW.trod_struct Try.underlying63 h
  have k47 : Try.prog.cellsOf 63 = 2 := by kernel_rfl
  have k45 : Try.prog.cellsOf 61 = 1 := by kernel_rfl
  have k9 : Try.prog.cellsOf 9 = 1 := by kernel_rfl
  rw [k47] at hcl
  match xs, hlen with
  | [y0, y1], _ =>
  match cs, hcl with
  | [c0, c1], _ =>
  have g0 := hf 0 _ rfl
  have g1 := hf 1 _ rfl
  simp [k45, k9] at g0 g1
  obtain ⟨op, e0, -, -⟩ := DataW.trod_int Try.underlying61 g0
  obtain ⟨s1, e1, d1, m1⟩ := DataW.trod_string Try.underlying9 g1
  simp at e0 e1
  subst e0 e1
  exact ⟨(op, s1), rfl⟩
theorem having_opened {n : Nat} {cs : List Value} {x : DataW H × List MemPlace} (h : DataW.trod enc Try.prog w base spare held n 108 cs = some x) : ∃ t : Int × ByteArray × Int × Int, cs = encHv t := by
  obtain ⟨xs, n, rfl, hx, hcl, hlen, hf⟩ := DataW.trod_struct Try.underlying108 h
  have k61 : Try.prog.cellsOf 108 = 4 := by kernel_rfl
  have k47 : Try.prog.cellsOf 63 = 2 := by kernel_rfl
  have k3 : Try.prog.cellsOf 3 = 1 := by kernel_rfl
  rw [k61] at hcl
  match xs, hlen with
  | [y0, y1, y2], _ =>
  match cs, hcl with
  | [c0, c1, c2, c3], _ =>
  have g0 := hf 0 _ rfl
  have g1 := hf 1 _ rfl
  have g2 := hf 2 _ rfl
  simp [k47, k3] at g0 g1 g2
  obtain ⟨⟨a, b⟩, e0⟩ := term_opened g0
  obtain ⟨op1, e1, -, -⟩ := DataW.trod_int Try.underlying3 g1
  obtain ⟨op2, e2, -, -⟩ := DataW.trod_int Try.underlying3 g2
  simp [encTm] at e0 e1 e2
  obtain ⟨rfl, rfl⟩ := e0
  subst e1 e2
  exact ⟨(a, b, op1, op2), rfl⟩
theorem query_opened {r : Reach} {b0 : Nat} {v : Value} {d : DataW H} {p : List MemPlace} (hv : Value.okWide Try.prog w r b0 42 v) (h : DataW.Trod enc Try.prog w base spare held 42 v d p) (hwt : ∀ k ∈ d.weights Try.prog 42, k ≤ reachBytes) :
    ∃ q : QZ, v = .agg (qc q) ∧ QIn w q := by
  obtain ⟨cs, rfl, hsz⟩ := okWide_struct Try.underlying42 hv
  obtain ⟨fuel, hfu⟩ := h
  have hcs : (Value.agg cs).cells.toList = cs.toList := rfl
  rw [hcs] at hfu
  obtain ⟨xs, n, rfl, hx, hcl, hlen, hf⟩ := DataW.trod_struct Try.underlying42 hfu
  have k32 : Try.prog.cellsOf 42 = 12 := by kernel_rfl
  have k25 : Try.prog.cellsOf 35 = 1 := by kernel_rfl
  have k3 : Try.prog.cellsOf 3 = 1 := by kernel_rfl
  have k22 : Try.prog.cellsOf 22 = 1 := by kernel_rfl
  have k29 : Try.prog.cellsOf 39 = 4 := by kernel_rfl
  have k30 : Try.prog.cellsOf 40 = 1 := by kernel_rfl
  have k47 : Try.prog.cellsOf 63 = 2 := by kernel_rfl
  have k61 : Try.prog.cellsOf 108 = 4 := by kernel_rfl
  rw [k32] at hcl
  obtain ⟨l, hl⟩ : ∃ l, l = cs.toList := ⟨_, rfl⟩
  rw [← hl] at hcl hf
  match xs, hlen with
  | [y0, y1, y2, y3, y4, y5, y6, y7, y8], _ =>
  match l, hcl with
  | [c0, c1, c2, c3, c4, c5, c6, c7, c8, c9, c10, c11], _ =>
  have g0 := hf 0 _ rfl
  have g1 := hf 1 _ rfl
  have g2 := hf 2 _ rfl
  have g3 := hf 3 _ rfl
  have g4 := hf 4 _ rfl
  have g5 := hf 5 _ rfl
  have g6 := hf 6 _ rfl
  have g7 := hf 7 _ rfl
  have g8 := hf 8 _ rfl
  simp [k25, k3, k22, k29, k30] at g0 g1 g2 g3 g4 g5 g6 g7 g8
  have hdx : d = DataW.agg [y0.1, y1.1, y2.1, y3.1, y4.1, y5.1, y6.1, y7.1, y8.1] := congrArg Prod.fst hx
  have hw9 : ∀ k, k ∈ DataW.weights Try.prog 35 y0.1 ∨ k ∈ DataW.weights Try.prog 39 y5.1 ∨ k ∈ DataW.weights Try.prog 40 y6.1 → k ≤ reachBytes := fun k hk => hwt k (by
    rw [hdx]
    simp only [DataW.weights, Try.underlying42, List.map_cons, List.map_nil, DataW.weightsEach, List.mem_append]
    rcases hk with hk | hk | hk
    · exact .inl hk
    · exact .inr (.inr (.inr (.inr (.inr (.inl hk)))))
    · exact .inr (.inr (.inr (.inr (.inr (.inr (.inl hk)))))))
  obtain ⟨T, tA, tn, tc, rfl, t1, t2, t3, t4, -, -⟩ := rows_of encTm 2 (fun _ => rfl) (by omega) Try.underlying35 k47 (fun _ => True) g0 (fun k hk => hw9 k (.inl hk)) (fun n' cs' y hn' hy hyw => by
    obtain ⟨t, ht⟩ := term_opened hy
    exact ⟨t, ht, trivial⟩)
  obtain ⟨frm, e1, -, -⟩ := DataW.trod_int Try.underlying3 g1
  obtain ⟨upto, e2, -, -⟩ := DataW.trod_int Try.underlying3 g2
  obtain ⟨every, e3, -, -⟩ := DataW.trod_int Try.underlying3 g3
  obtain ⟨BY, bA, bn, bc, rfl, b1, b2, b3, b4, b5, b6⟩ := strs_opened g4
  obtain ⟨f, e5, hfi⟩ := filter_opened _ _ _ g5 (fun k hk => hw9 k (.inr (.inl hk)))
  obtain ⟨HH, hA, hn, hc, rfl, h1, h2, h3, h4, -, -⟩ := rows_of encHv 4 (fun _ => rfl) (by omega) Try.underlying40 k61 (fun _ => True) g6 (fun k hk => hw9 k (.inr (.inr hk))) (fun n' cs' y hn' hy hyw => by
    obtain ⟨t, ht⟩ := having_opened hy
    exact ⟨t, ht, trivial⟩)
  obtain ⟨order, e7, -, -⟩ := DataW.trod_int Try.underlying3 g7
  obtain ⟨limit, e8, -, -⟩ := DataW.trod_int Try.underlying3 g8
  simp [FT.enc] at e1 e2 e3 e5 e7 e8
  obtain ⟨rfl, rfl, rfl, rfl⟩ := e5
  subst e1 e2 e3 e7 e8
  refine ⟨⟨tA, tn, tc, T, frm, upto, every, bA, bn, bc, BY, f, hA, hn, hc, HH, order, limit⟩, ?_, ?_⟩
  · rw [← Array.toArray_toList (xs := cs), ← hl]; rfl
  · exact ⟨⟨b1, b2, b3, b6, by show bn ≤ _; omega⟩, hfi, t1, t2, t3, by show tn ≤ _; omega, h1, h2, h3, by show hn ≤ _; omega⟩
end
end Go.Proofs.Ytgaallkdfcckpaa
