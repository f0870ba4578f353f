/- CheckBack: its walk. -/
import Derived.Test.YtnnagjlpkieobaaDoorYJ
namespace Go.Proofs.YtnnagjlpkieobaaDoor
open Go.RowKit
set_option linter.unusedSimpArgs false
set_option linter.unusedVariables false
def flatB (D : List (List Int)) : List Int := (D.map blockL).flatten
theorem flat_snoc (D : List (List Int)) (x : List Int) : flatB (D ++ [x]) = flatB D ++ blockL x := by simp [flatB]
theorem flat_bytes {D : List (List Int)} (h : ∀ xs ∈ D, bytes xs) : bytes (flatB D) := by
  intro z hz
  simp only [flatB, List.mem_flatten, List.mem_map] at hz
  obtain ⟨l, ⟨xs, hx, rfl⟩, hz⟩ := hz
  exact blockL_bytes (h xs hx) z hz
theorem first_own {x rest : List Int} (hx : x.length ≤ 100000) (hb : bytes x) (hr : bytes rest) : firstZ (blockL x ++ rest) = some (x, (blockL x).length) := by
  obtain ⟨E, hE⟩ : ∃ E, E = encV (x.length : Int) := ⟨_, rfl⟩
  have hall : bytes (blockL x ++ rest) := fun z hz => by
    rcases List.mem_append.1 hz with hz | hz
    · exact blockL_bytes hb z hz
    · exact hr z hz
  have hp : numP (blockL x ++ rest) = ((x.length : Int), E.length) := by
    rw [block_split, List.append_assoc, numP_enc (by omega) (by omega), hE, enc_len]
  have hE1 : 1 ≤ E.length := by rw [hE]; exact (enc_bd _).1
  have hl := block_len x
  rw [← hE] at hl
  have e1 : (headL x).length = E.length + x.length := by rw [headL, List.length_append, ← hE]
  have e2 : blockL x ++ rest = headL x ++ (sumB (sumN (headL x)) ++ rest) := by rw [blockL, List.append_assoc]
  have e3 : blockL x ++ rest = E ++ (x ++ (sumB (sumN (headL x)) ++ rest)) := by rw [e2, headL, ← hE, List.append_assoc]
  have hc : ¬ ((blockL x ++ rest).length < E.length + x.length + 4 ∨ ((blockL x ++ rest).drop (E.length + x.length)).take 4 ≠ sumB (sumN ((blockL x ++ rest).take (E.length + x.length)))) := by
    intro h
    rcases h with h | h
    · rw [List.length_append] at h; omega
    · apply h
      rw [← e1, e2, List.drop_left, List.take_left]
      exact List.take_left' (by simp [sumB])
  rw [firstZ_eq hall hp hE1 (by omega), if_neg hc]
  congr 1
  rw [Prod.mk.injEq]
  refine ⟨?_, by omega⟩
  rw [e3, List.drop_left, List.take_left]
theorem blocks_own : ∀ (D : List (List Int)) (rest : List Int), (∀ xs ∈ D, bytes xs ∧ xs.length ≤ 100000) → bytes rest → blocksZ (flatB D ++ rest) = (D ++ (blocksZ rest).1, (flatB D).length + (blocksZ rest).2) := by
  intro D
  induction D with
  | nil => intro rest _ _; simp [flatB]
  | cons x D ih =>
    intro rest h hr
    have hx := h x (by simp)
    have hD := fun xs hxs => h xs (List.mem_cons_of_mem x hxs)
    have e : flatB (x :: D) = blockL x ++ flatB D := by simp [flatB]
    have hb : bytes (flatB D ++ rest) := fun z hz => by
      rcases List.mem_append.1 hz with hz | hz
      · exact flat_bytes (fun xs hxs => (hD xs hxs).1) z hz
      · exact hr z hz
    rw [e, List.append_assoc, blocksZ_some (first_own hx.2 hx.1 hb), List.drop_left, ih rest hD hr]
    simp [Nat.add_assoc]
theorem blocks_nil : blocksZ [] = ([], 0) := by
  refine blocksZ_none (firstZ_bad (v := 0) (g := 0) (fun x hx => by cases hx) rfl (.inl rfl))
theorem Rws.take {w : World} {row : Option Nat} {vs : List Value} {L : List (List Int)} (h : Rws w row vs L) (n : Nat) : Rws w row (vs.take n) (L.take n) := by
  refine ⟨by rw [List.length_take, List.length_take, h.1], fun i xs hi => ?_⟩
  have hin : i < n := by
    rcases Nat.lt_or_ge i n with e | e
    · exact e
    · rw [List.getElem?_eq_none (by rw [List.length_take]; omega)] at hi; cases hi
  rw [List.getElem?_take_of_lt hin] at hi ⊢
  exact h.2 i xs hi
theorem rowv_take {w : World} {A : Option Addr} {xs : List Value} (h : Row w A xs) (n : Nat) : Row w A (xs.take n) := by
  rcases h with h | ⟨b, off, rfl, hc⟩
  · left; rw [h]; simp
  · refine .inr ⟨b, off, rfl, fun j u hu => hc j u ?_⟩
    rcases Nat.lt_or_ge j n with e | e
    · rwa [List.getElem?_take_of_lt e] at hu
    · rw [List.getElem?_eq_none (by rw [List.length_take]; omega)] at hu; cases hu
theorem own_kind {w : World} {B : Nat} {e : TypeId} {size : Nat} {v : Value} {n : Nat} {xs : List Value} (h : w.ownsRow B e size v n xs) : ∀ g, v.ownBlock = some g → ∃ c fz, w.heap[g]? = some (.cells c e fz) := by
  intro g hg
  rcases h.2 with ⟨rfl, _⟩ | ⟨g', cap, cur, rfl, _, hh, _⟩
  · simp [Value.ownBlock] at hg
  · simp [Value.ownBlock] at hg
    subst hg
    exact ⟨_, _, hh⟩
theorem own_apart {w : World} {B B' n n' : Nat} {v v' : Value} {xs xs' : List Value} (h : w.ownsRow B 22 1 v n xs) (h' : w.ownsRow B' 5 1 v' n' xs') : (v.ownBlock = none ∨ v.ownBlock ≠ v'.ownBlock) ∧ (v'.ownBlock = none ∨ v'.ownBlock ≠ v.ownBlock) := by
  cases e : v.ownBlock with
  | none => exact ⟨.inl rfl, by cases e' : v'.ownBlock <;> simp⟩
  | some g =>
    obtain ⟨c, fz, h1⟩ := own_kind h g e
    have key : v'.ownBlock ≠ some g := by
      intro e'
      obtain ⟨c', fz', h2⟩ := own_kind h' g e'
      rw [h1] at h2
      simp at h2
    exact ⟨.inr (fun h => key h.symm), .inr key⟩
end Go.Proofs.YtnnagjlpkieobaaDoor
