/- A block that is cut, or of which bits are turned, is none. -/
import Derived.Test.YtnnagjlpkieobaaDoorYI
namespace Go.Proofs.YtnnagjlpkieobaaDoor
open Go.RowKit
set_option linter.unusedSimpArgs false
set_option linter.unusedVariables false
theorem num_more : ∀ (cs : List Int) (i u v k : Nat) (rest : List Int), numAux i u cs = some (v, k) → numAux i u (cs ++ rest) = some (v, k) := by
  intro cs
  induction cs with
  | nil => intro i u v k rest h; simp [numAux] at h
  | cons c cs ih =>
    intro i u v k rest h
    rw [List.cons_append]
    by_cases hst : (i = 0 ∧ c = 128) ∨ 144115188075855871 < u
    · rw [num_stop hst] at h; cases h
    · by_cases hc : c < 128
      · rw [num_end hst hc] at h ⊢; exact h
      · rw [num_go hst hc] at h ⊢; exact ih _ _ _ _ _ h
theorem enc_cut {v : Int} (h1 : -9223372036854775808 ≤ v) (h2 : v ≤ 9223372036854775807) {k : Nat} (hk : k < (encV v).length) : numP ((encV v).take k) = (0, 0) := by
  have hf := fold_bd h1 h2
  have he : numAux 0 0 (encV v ++ []) = some ((foldZ v).toNat, groupsZ (foldZ v).toNat) := num_enc _ (by omega) []
  unfold numP
  cases hn : numAux 0 0 ((encV v).take k) with
  | none => rfl
  | some p =>
    obtain ⟨u, l⟩ := p
    have h3 := num_more _ _ _ _ _ ((encV v).drop k) hn
    rw [List.take_append_drop] at h3
    rw [List.append_nil, h3] at he
    have h4 := num_le _ _ _ _ _ hn
    simp only [Option.some.injEq, Prod.mk.injEq] at he
    rw [enc_len] at hk
    rw [List.length_take] at h4
    omega
theorem block_split (xs : List Int) : blockL xs = encV (xs.length : Int) ++ (xs ++ sumB (sumN (headL xs))) := by unfold blockL headL; rw [List.append_assoc]
theorem block_len (xs : List Int) : (blockL xs).length = (encV (xs.length : Int)).length + xs.length + 4 := by rw [block_split, List.length_append, List.length_append]; simp [sumB]; omega
theorem block_cut {xs : List Int} (hx : xs.length ≤ 100000) (hb : bytes xs) {k : Nat} (hk : k < (blockL xs).length) : firstZ ((blockL xs).take k) = none := by
  have hbb := blockL_bytes hb
  have hbt : bytes ((blockL xs).take k) := fun z hz => hbb z (List.mem_of_mem_take hz)
  have hl := block_len xs
  rcases Nat.lt_or_ge k (encV (xs.length : Int)).length with h | h
  · refine firstZ_bad (v := 0) (g := 0) hbt ?_ (.inl rfl)
    rw [block_split, List.take_append_of_le_length (by omega)]
    exact enc_cut (by omega) (by omega) h
  · have hp : numP ((blockL xs).take k) = ((xs.length : Int), (encV (xs.length : Int)).length) := by
      rw [block_split, List.take_append, List.take_of_length_le h, numP_enc (by omega) (by omega), enc_len]
    rw [firstZ_eq hbt hp (by have := enc_bd (xs.length : Int); omega) (by omega), if_pos (.inl (by rw [List.length_take]; omega))]
theorem sum_ne {a b : List Int} (ha : bytes a) (hb : bytes b) (h : crcN 4294967295 a ≠ crcN 4294967295 b) : sumB (sumN a) ≠ sumB (sumN b) := by
  intro e
  have h1 := crc_lt a 4294967295 (by omega)
  have h2 := crc_lt b 4294967295 (by omega)
  have e1 : sumN a = sumN b := by rw [← beN_sumB (s := sumN a) (by unfold sumN; omega), e, beN_sumB (by unfold sumN; omega)]
  unfold sumN at e1
  omega
theorem block_turned {xs ys : List Int} (hx : xs.length ≤ 100000) (hb : bytes xs) (hy : bytes ys) (hl : ys.length = xs.length) {u a : Nat}
    (h : leN (encV (xs.length : Int) ++ ys) = leN (headL xs) ^^^ 2 ^ a * u) (hu : u < 4294967296) (h0 : u ≠ 0) (ha : a ≤ 8 * (headL xs).length) :
    firstZ (encV (xs.length : Int) ++ ys ++ sumB (sumN (headL xs))) = none := by
  obtain ⟨E, hE⟩ : ∃ E, E = encV (xs.length : Int) := ⟨_, rfl⟩
  have hEb : bytes E := by rw [hE]; exact enc_bytes _
  have hbu : bytes (E ++ ys) := fun z hz => by
    rcases List.mem_append.1 hz with hz | hz
    · exact hEb z hz
    · exact hy z hz
  have hball : bytes (E ++ ys ++ sumB (sumN (headL xs))) := fun z hz => by
    rcases List.mem_append.1 hz with hz | hz
    · exact hbu z hz
    · exact sumB_bytes _ z hz
  have hhl : (headL xs).length = E.length + xs.length := by rw [headL, List.length_append, ← hE]
  have hne := burst (head_bytes hb) hbu (by rw [List.length_append, hhl, hl]) (by rw [hE]; exact h) hu h0 ha 4294967295
  have hp : numP (E ++ ys ++ sumB (sumN (headL xs))) = ((xs.length : Int), E.length) := by
    rw [List.append_assoc, hE, numP_enc (by omega) (by omega), enc_len]
  have hE1 : 1 ≤ E.length := by rw [hE]; exact (enc_bd _).1
  have e1 : (E ++ ys).length = E.length + xs.length := by rw [List.length_append, hl]
  have hc : ((E ++ ys ++ sumB (sumN (headL xs))).drop (E.length + xs.length)).take 4 ≠ sumB (sumN ((E ++ ys ++ sumB (sumN (headL xs))).take (E.length + xs.length))) := by
    rw [← e1, List.drop_left, List.take_left, List.take_of_length_le (by simp [sumB])]
    exact sum_ne (head_bytes hb) hbu (fun e => hne e.symm)
  rw [← hE, firstZ_eq hball hp hE1 (by omega), if_pos (.inr hc)]
/-- The bits that are turned so far. -/
theorem mask_snoc (W i a : Nat) : 2 ^ a * (W % 2 ^ (i + 1)) = 2 ^ a * (W % 2 ^ i) ^^^ 2 ^ (a + i) * (W / 2 ^ i % 2) := by
  rw [Nat.mod_pow_succ, Nat.add_comm (W % 2 ^ i), add_xor (Nat.mod_lt _ (Nat.two_pow_pos i)), Nat.xor_comm]
  have h := Nat.shiftLeft_xor_distrib (a := W % 2 ^ i) (b := 2 ^ i * (W / 2 ^ i % 2)) (i := a)
  rw [Nat.pow_add, Nat.mul_assoc]
  simpa [Nat.shiftLeft_eq, Nat.mul_comm, Nat.mul_left_comm, Nat.mul_assoc] using h
end Go.Proofs.YtnnagjlpkieobaaDoor
