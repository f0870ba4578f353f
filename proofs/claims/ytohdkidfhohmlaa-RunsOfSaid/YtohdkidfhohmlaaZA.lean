/- A slice of stretches, of which an argument tells; is a set asked about; sets and their numbers. -/
import Derived.Test.YtohdkidfhohmlaaZ
import Derived.Test.YtohdkidfhohmlaaH
import Derived.Test.YtohdkidfhohmlaaI
import Derived.Test.YtohdkidfhohmlaaK
import Derived.Deep.Slices
import Derived.Deep.Fields
import Derived.ChangeSame
namespace Go.Proofs.Ytohdkidfhohmlaa
open Go.ChangeShapes Go.WideShapes Go.Deep Go.RowKit
set_option linter.unusedSimpArgs false
set_option linter.unusedVariables false
theorem list_of {α : Type} {p : Nat → α → Prop} : ∀ n : Nat, (∀ i, i < n → ∃ a, p i a) → ∃ L : List α, L.length = n ∧ ∀ i (h : i < L.length), p i L[i] := by
  intro n
  induction n with
  | zero => intro _; exact ⟨[], rfl, by simp⟩
  | succ n ih =>
    intro h
    obtain ⟨L, h1, h2⟩ := ih (fun i hi => h i (by omega))
    obtain ⟨a, ha⟩ := h n (by omega)
    refine ⟨L ++ [a], by simp [h1], fun i hi => ?_⟩
    by_cases hl : i < L.length
    · rw [List.getElem_append_left hl]; exact h2 i hl
    · have : i = n := by simp at hi; omega
      subst this
      rw [List.getElem_append_right (by omega)]
      simpa using ha
theorem cellsP_at {L : List (Int × Int)} : ∀ {j : Nat} {u : Value}, (cellsP L)[j]? = some u → ∃ k, ∃ h : k < L.length, (j = k * 2 ∧ u = .int .i64 L[k].1) ∨ (j = k * 2 + 1 ∧ u = .int .i64 L[k].2) := by
  intro j u hu
  have hj : j < L.length * 2 := by
    rcases Nat.lt_or_ge j (L.length * 2) with h | h
    · exact h
    · rw [List.getElem?_eq_none (by rw [cellsP_length]; omega)] at hu; cases hu
  refine ⟨j / 2, by omega, ?_⟩
  obtain ⟨h1, h2⟩ := cellsP_get L (j / 2) (by omega)
  rcases Nat.mod_two_eq_zero_or_one j with h | h
  · left
    have e : j / 2 * 2 = j := by omega
    rw [e, hu] at h1
    exact ⟨e.symm, by injection h1⟩
  · right
    have e : j / 2 * 2 + 1 = j := by omega
    rw [e, hu] at h2
    exact ⟨e.symm, by injection h2⟩
section
variable {H : Type} {enc : TypeId × Value → H} {w : World} {base : Nat} {spare : Nat → Bool} {held : Bool}
theorem runs_opened {A : Option Addr} {len cap fuel : Nat} {x : DataW H × List MemPlace} (h : DataW.trod enc Try.prog w base spare held fuel 24 (Value.slice A len cap).cells.toList = some x) :
    ∃ L : List (Int × Int), Row w A (cellsP L) ∧ len = L.length ∧ len ≤ cap := by
  rcases open_slice Try.underlying24 h with ⟨hcs, _⟩ | ⟨a, l, c, m, n, D, Pl, hcs, _, hl, hm, hmm, _, hi⟩
  · simp [Value.cells] at hcs
    obtain ⟨rfl, rfl, rfl⟩ := hcs
    exact ⟨[], .inl rfl, rfl, Nat.le_refl _⟩
  · simp [Value.cells] at hcs
    obtain ⟨rfl, rfl, rfl⟩ := hcs
    have hC : Try.prog.cellsOf 45 = 2 := by kernel_rfl
    have hc3 : Try.prog.cellsOf 3 = 1 := by kernel_rfl
    rw [hC] at hi
    have hlm : len ≤ m := by rw [hmm]; split <;> omega
    obtain ⟨L, hL, hp⟩ := list_of (p := fun i (b : Int × Int) => w.cell? (a.add (i * 2)) = some (.int .i64 b.1) ∧ w.cell? (a.add (i * 2 + 1)) = some (.int .i64 b.2)) len (fun i hil => by
        obtain ⟨cs', hc, ht⟩ := hi i (by omega)
        obtain ⟨_, hcl, hat⟩ := World.cells?_some hc
        obtain ⟨ys, n', _, _, _, _, hf⟩ := DataW.trod_struct Try.underlying45 ht
        match cs', hcl with
        | [c0, c1], _ =>
          have f0 : DataW.trod enc Try.prog w base spare held n' 3 ((([c0, c1] : List Value).drop 0).take (Try.prog.cellsOf 3)) = ys[0]? := hf 0 _ rfl
          have f1 : DataW.trod enc Try.prog w base spare held n' 3 ((([c0, c1] : List Value).drop 1).take (Try.prog.cellsOf 3)) = ys[1]? := hf 1 _ rfl
          rw [hc3] at f0 f1
          have g0 := hat 0 (by omega)
          have g1 := hat 1 (by omega)
          rw [add_add] at g0 g1
          have ysl : ys.length = 2 := by assumption
          match ys, ysl with
          | [y0, y1], _ =>
            obtain ⟨z0, e0, _, b0⟩ := DataW.trod_int Try.underlying3 (x := y0) f0
            obtain ⟨z1, e1, _, b1⟩ := DataW.trod_int Try.underlying3 (x := y1) f1
            simp at e0 e1
            subst e0 e1
            exact ⟨⟨z0, z1⟩, g0, g1⟩)
    refine ⟨L, ?_, hL.symm, hl⟩
    rcases Nat.eq_zero_or_pos len with h0 | h0
    · have hl0 : L = [] := List.eq_nil_of_length_eq_zero (by omega)
      exact .inl (by rw [hl0]; rfl)
    · obtain ⟨b, off, spot⟩ := a
      have h1 := (hp 0 (by omega)).1
      have hs : spot = none := by simpa [Addr.add] using World.cell?_spot h1
      subst hs
      have hadd : ∀ k, (⟨b, off, none⟩ : Addr).add k = ⟨b, off + k, none⟩ := by
        intro k; unfold Addr.add; split
        · rename_i h; subst h; rfl
        · rfl
      refine .inr ⟨b, off, rfl, fun j u hu => ?_⟩
      obtain ⟨k, hk, ⟨rfl, rfl⟩ | ⟨rfl, rfl⟩⟩ := cellsP_at hu
      · have := (hp k hk).1; rwa [hadd] at this
      · have := (hp k hk).2; rwa [hadd] at this
end
def okB (L : List (Int × Int)) : Bool := decide (L.length ≤ 3000) && rightB (-1) L && decide (rankZ 65536 L ≤ 3000)
theorem okB_iff (L : List (Int × Int)) : okB L = true ↔ okSet L := by
  unfold okB okSet
  rw [Bool.and_eq_true, Bool.and_eq_true, decide_eq_true_eq, decide_eq_true_eq, and_assoc]
theorem fits_any (A : Option Addr) (n c : Nat) (L : List (Int × Int)) (w : World) (hA : Row w A (cellsP L)) (hz : n = L.length) :
    Calls Try.prog 19 #[.slice A n c] w fun e w' => e = .returned (.bool (okB L)) ∧ Below w.heap.size w w' := by
  by_cases h : okSet L
  · rw [(okB_iff L).2 h]; exact fits_yes A n c L w hA hz h
  · rw [show okB L = false by cases hb : okB L with | true => exact absurd ((okB_iff L).1 hb) h | false => rfl]; exact fits_no A n c L w hA hz h
theorem mem_list {L : List (Int × Int)} {x : Int} : x ∈ listL L ↔ hasB x L = true := by
  induction L with
  | nil => simp [listL, hasB]
  | cons p L ih =>
    have hs : ∀ (n : Nat) (a : Int), x ∈ seqZ a n ↔ a ≤ x ∧ x < a + n := by
      intro n
      induction n with
      | zero => intro a; simp only [seqZ, List.not_mem_nil, false_iff]; omega
      | succ n ih => intro a; rw [seqZ, List.mem_cons, ih]; omega
    rw [show listL (p :: L) = seqZ p.1 (p.2 - p.1).toNat ++ listL L by simp [listL], List.mem_append, ih, hs, hasB]
    by_cases h : p.1 ≤ x ∧ x < p.2
    · rw [if_pos h]; simp; left; omega
    · rw [if_neg h]; constructor
      · rintro (h1 | h1)
        · omega
        · exact h1
      · exact .inr
theorem has_congr {L M : List (Int × Int)} (h1 : rightB (-1) L = true) (h2 : rightB (-1) M = true) (h : ∀ x, hasB x L = hasB x M) : L = M := right_ext h1 h2 h
theorem cnt_four {f g p q : Int → Bool} (h : ∀ i, (f i = (p i && q i)) ∧ (g i = (p i || q i))) : ∀ n, cnt f n + cnt g n = cnt p n + cnt q n := by
  intro n
  induction n with
  | zero => rfl
  | succ n ih =>
    rw [cnt, cnt, cnt, cnt, (h n).1, (h n).2]
    cases p n <;> cases q n <;> simp <;> omega
theorem rank_four {L M X Y : List (Int × Int)} (hL : rightB (-1) L = true) (hM : rightB (-1) M = true) (hX : rightB (-1) X = true) (hY : rightB (-1) Y = true)
    (h1 : ∀ x, hasB x L = TT (hasB x X) (hasB x Y)) (h2 : ∀ x, hasB x M = TO (hasB x X) (hasB x Y)) (n : Nat) : rankZ n L + rankZ n M = rankZ n X + rankZ n Y := by
  rw [rank_cnt hL, rank_cnt hM, rank_cnt hX, rank_cnt hY]
  exact cnt_four (fun i => ⟨h1 i, h2 i⟩) n
theorem rank_le {L : List (Int × Int)} (h : rightB (-1) L = true) (n : Nat) : 0 ≤ rankZ n L ∧ rankZ n L ≤ n := by
  rw [rank_cnt h]; exact cnt_le _ _
theorem full_has (x : Int) : hasB x (uptoL 65536) = decide (0 ≤ x ∧ x < 65536) := by
  rw [upto_has, decide_eq_decide]; omega
end Go.Proofs.Ytohdkidfhohmlaa
