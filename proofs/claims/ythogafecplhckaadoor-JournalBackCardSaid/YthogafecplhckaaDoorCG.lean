/- All blocks that bytes begin with; lists of lists of bytes. -/
import Derived.Test.YthogafecplhckaaDoorCF
namespace Go.Proofs.YthogafecplhckaaDoor
open Go.RowKit
set_option linter.unusedSimpArgs false
set_option linter.unusedVariables false
/-- Slices of bytes, one behind the other, none of which lies in one block. -/
def Rws (w : World) (row : Option Nat) (vs : List Value) (L : List (List Int)) : Prop :=
  vs.length = L.length ∧ ∀ (i : Nat) (xs : List Int), L[i]? = some xs → ∃ A c, vs[i]? = some (.slice A xs.length c) ∧ Row w A (xs.map (Value.int .u8)) ∧ xs.length ≤ c ∧ (A = none → c = 0) ∧ (0 < xs.length → ∀ b off, A = some ⟨b, off, none⟩ → some b ≠ row)
theorem Rws.keep {w w' : World} {row : Option Nat} {vs : List Value} {L : List (List Int)} (h : Rws w row vs L) (hb : Below w.heap.size w w') : Rws w' row vs L :=
  ⟨h.1, fun i xs hi => by obtain ⟨A, c, h1, h2, h3, h4, h5⟩ := h.2 i xs hi; exact ⟨A, c, h1, h2.keep (Nat.le_refl _) hb, h3, h4, h5⟩⟩
theorem Rws.free {w : World} {row : Option Nat} {vs : List Value} {L : List (List Int)} (h : Rws w row vs L) : Rws w none vs L :=
  ⟨h.1, fun i xs hi => by obtain ⟨A, c, h1, h2, h3, h4, h5⟩ := h.2 i xs hi; exact ⟨A, c, h1, h2, h3, h4, fun _ _ _ _ => by simp⟩⟩
theorem Rws.nil (w : World) (row : Option Nat) : Rws w row [] [] := ⟨rfl, fun i xs h => by simp at h⟩
theorem Rws.snoc {w : World} {row : Option Nat} {vs : List Value} {L : List (List Int)} (h : Rws w row vs L) {A : Option Addr} {n c : Nat} {xs : List Int} (hn : n = xs.length) (hr : Row w A (xs.map (Value.int .u8))) (hc : n ≤ c) (ha : A = none → c = 0) (hf : ∀ b off, A = some ⟨b, off, none⟩ → some b ≠ row) :
    Rws w row (vs ++ [.slice A n c]) (L ++ [xs]) := by
  subst hn
  refine ⟨by simp [h.1], fun i ys hi => ?_⟩
  rcases Nat.lt_or_ge i L.length with hl | hl
  · rw [List.getElem?_append_left hl] at hi
    rw [List.getElem?_append_left (by rw [h.1]; exact hl)]
    exact h.2 i ys hi
  · rw [List.getElem?_append_right hl] at hi
    have : i - L.length = 0 := by
      rcases Nat.eq_zero_or_pos (i - L.length) with e | e
      · exact e
      · rw [List.getElem?_eq_none (by simp; omega)] at hi; cases hi
    rw [this] at hi
    simp at hi
    subst hi
    rw [List.getElem?_append_right (by rw [h.1]; exact hl), h.1, this]
    exact ⟨A, c, rfl, hr, hc, ha, fun _ => hf⟩
theorem Rws.step {w w' : World} {row row' : Option Nat} {vs : List Value} {L : List (List Int)} (h : Rws w row vs L) (hg : w.grownBy w' row) (hr : row' = row ∨ row' = some w.heap.size) : Rws w' row' vs L :=
  ⟨h.1, fun i xs hi => by
    obtain ⟨A, c, h1, h2, h3, h4, h5⟩ := h.2 i xs hi
    refine ⟨A, c, h1, ?_, h3, h4, fun h0 b off hA => ?_⟩
    · rcases h2 with h2 | ⟨b, off, rfl, hc⟩
      · exact .inl h2
      · rcases Nat.eq_zero_or_pos xs.length with h0 | h0
        · left; rw [List.length_eq_zero_iff.1 h0]; rfl
        · exact row_grown hg (.inr ⟨b, off, rfl, hc⟩) (h5 h0 b off rfl)
    · subst hA
      rcases hr with rfl | rfl
      · exact h5 h0 b off rfl
      · obtain ⟨b', off', he, hc⟩ := Row.cell h2 h0
        cases he
        have := lt_of_cell hc
        intro e; cases e; omega⟩
def blocksF : Nat → List Int → List (List Int) × Nat
  | 0, _ => ([], 0)
  | f + 1, bs => match firstZ bs with
    | none => ([], 0)
    | some (x, k) => (x :: (blocksF f (bs.drop k)).1, k + (blocksF f (bs.drop k)).2)
def blocksZ (bs : List Int) : List (List Int) × Nat := blocksF (bs.length + 1) bs
theorem firstZ_bd {bs x : List Int} {k : Nat} (h : firstZ bs = some (x, k)) : 5 ≤ k ∧ k ≤ bs.length ∧ x.length ≤ bs.length := by
  unfold firstZ at h
  split at h
  · cases h
  · rename_i hc
    simp only [Option.some.injEq, Prod.mk.injEq] at h
    obtain ⟨rfl, rfl⟩ := h
    simp only [not_or, List.length_take, List.length_drop] at hc ⊢
    omega
theorem blocksF_more : ∀ (f g : Nat) (bs : List Int), bs.length < f → bs.length < g → blocksF f bs = blocksF g bs := by
  intro f
  induction f with
  | zero => intro g bs h; omega
  | succ f ih =>
    intro g bs hf hg
    obtain ⟨g, rfl⟩ : ∃ g', g = g' + 1 := ⟨g - 1, by omega⟩
    rw [blocksF, blocksF]
    cases he : firstZ bs with
    | none => rfl
    | some p =>
      obtain ⟨x, k⟩ := p
      have hb := firstZ_bd he
      have := ih g (bs.drop k) (by rw [List.length_drop]; omega) (by rw [List.length_drop]; omega)
      simp only [this]
theorem blocksZ_none {bs : List Int} (h : firstZ bs = none) : blocksZ bs = ([], 0) := by unfold blocksZ; rw [blocksF, h]
theorem blocksZ_some {bs x : List Int} {k : Nat} (h : firstZ bs = some (x, k)) : blocksZ bs = (x :: (blocksZ (bs.drop k)).1, k + (blocksZ (bs.drop k)).2) := by
  have hb := firstZ_bd h
  unfold blocksZ
  rw [blocksF, h]
  simp only
  rw [blocksF_more bs.length ((bs.drop k).length + 1) (bs.drop k) (by rw [List.length_drop]; omega) (by omega)]
theorem Tryd.info25 : (Tryd.prog.info? 25).map (fun i => (i.zero, i.size, i.bytes)) = some (some (.slice none 0 0), 1, 24) := by kernel_rfl
theorem Tryd.underlying76 : Tryd.prog.underlying 76 = some (.slice 25) := by kernel_rfl
def BlocksPost (w : World) (r : List (List Int) × Nat) (e : Ending) (w' : World) : Prop :=
  ∃ A c vs, e = .returned (.tuple #[.slice A r.1.length c, .int .i64 r.2]) ∧ Row w' A vs ∧ Rws w' none vs r.1 ∧ r.1.length ≤ c ∧ (A = none → c = 0) ∧ Below w.heap.size w w'
theorem row_drop {w : World} {A : Option Addr} {zs : List Int} (h : Row w A (zs.map (Value.int .u8))) (k : Nat) : Row w (A.map (·.add k)) ((zs.drop k).map (Value.int .u8)) := by
  rcases h with h | ⟨b, off, rfl, hc⟩
  · simp at h; subst h; exact .inl (by simp)
  · have := ((show Row w (some ⟨b, off, none⟩) (zs.map (Value.int .u8)) from .inr ⟨b, off, rfl, hc⟩).part k).2
    have e : (⟨b, off, none⟩ : Addr).add k = ⟨b, off + k, none⟩ := by
      unfold Addr.add; split
      · rename_i h; subst h; rfl
      · rfl
    simpa [e] using this
end Go.Proofs.YthogafecplhckaaDoor
