/- The bytes that Parse takes are those that Bytes writes. -/
import Derived.Test.YtgegmbkjkiifaaaX
namespace Go.Proofs.Ytgegmbkjkiifaaa
open Go.RowKit Go.Lib
set_option linter.unusedSimpArgs false
set_option linter.unusedVariables false
theorem readT_code (a s : ByteArray) (rest : List Int) (ha : a.size ≤ 100) (hs : s.size ≤ 24) : readT a (codeT a s ++ rest) = some (s, rest) := by
  obtain ⟨j, hj⟩ : ∃ j, j = cpT a s := ⟨_, rfl⟩
  have h0 : codeT a s ++ rest = encV (j : Int) ++ (encV ((tailT s j).size : Int) ++ (sB (tailT s j) ++ rest)) := by rw [hj]; unfold codeT; simp
  have hja : j ≤ a.size := by rw [hj]; exact (cpT_le a s).1
  have hjs : j ≤ s.size := by rw [hj]; exact (cpT_le a s).2
  have hts := tailT_size s j
  have hgl : a.extract 0 j ++ tailT s j = s := by rw [hj]; exact glue a s
  rw [h0]
  have p1 : numP (encV (j : Int) ++ (encV ((tailT s j).size : Int) ++ (sB (tailT s j) ++ rest))) = ((j : Int), encG (j : Int)) := numP_enc (by omega) (by omega) _
  have p2 : numP (encV ((tailT s j).size : Int) ++ (sB (tailT s j) ++ rest)) = (((tailT s j).size : Int), encG ((tailT s j).size : Int)) := numP_enc (by omega) (by omega) _
  have q1 := encG_pos (j : Int)
  have q2 := encG_pos ((tailT s j).size : Int)
  unfold readT
  rw [p1]
  simp only []
  rw [if_neg (by omega), drop_enc, p2]
  simp only []
  rw [if_neg (by rw [List.length_append, List.length_append, encG_len, sB_length]; omega)]
  have hrd : ((encV ((tailT s j).size : Int) ++ (sB (tailT s j) ++ rest)).drop (encG ((tailT s j).size : Int))).take (tailT s j).size = sB (tailT s j) := by
    rw [drop_enc, ← sB_length, List.take_left]
  have hrd2 : (encV ((tailT s j).size : Int) ++ (sB (tailT s j) ++ rest)).drop (encG ((tailT s j).size : Int) + (tailT s j).size) = rest := by
    rw [← List.drop_drop, drop_enc, ← sB_length, List.drop_left]
  have e1 : ((tailT s j).size : Int).toNat = (tailT s j).size := by omega
  have e2 : (j : Int).toNat = j := by omega
  rw [e1, e2, hrd, hrd2, strOf_sB, hgl]
theorem readL_code : ∀ (D : List ByteArray) (a : ByteArray) (rest : List Int), a.size ≤ 100 → (∀ s ∈ D, s.size ≤ 24) → readL D.length a (codeL a D ++ rest) = some (D, rest) := by
  intro D
  induction D with
  | nil => intro a rest _ _; simp [readL, codeL]
  | cons s D ih =>
    intro a rest ha hD
    have h1 := hD s (List.mem_cons_self ..)
    rw [List.length_cons, readL, codeL, List.append_assoc, readT_code a s _ ha h1]
    simp only []
    rw [ih s rest (by omega) (fun x hx => hD x (List.mem_cons_of_mem _ hx))]
theorem readD_bytesD (D : List ByteArray) (hD : ∀ s ∈ D, s.size ≤ 24) (hl : D.length ≤ 65536) : readD (bytesD D) = some (D, []) := by
  have p1 : numP (bytesD D) = ((D.length : Int), encG (D.length : Int)) := by unfold bytesD; exact numP_enc (by omega) (by omega) _
  have q1 := encG_pos (D.length : Int)
  unfold readD
  rw [p1]
  simp only []
  rw [if_neg (by omega)]
  unfold bytesD
  rw [drop_enc]
  have h := readL_code D ⟨#[]⟩ [] (by decide) hD
  rw [List.append_nil] at h
  simpa using h
theorem readL_len : ∀ (k : Nat) (a : ByteArray) (bs : List Int) (L : List ByteArray) (ds : List Int), readL k a bs = some (L, ds) → L.length = k := by
  intro k
  induction k with
  | zero => intro a bs L ds h; simp [readL] at h; rw [h.1]; rfl
  | succ k ih =>
    intro a bs L ds h
    rw [readL] at h
    split at h
    · cases h
    · split at h
      · cases h
      · rename_i M gs hM
        simp at h
        rw [← h.1, List.length_cons, ih _ _ _ _ hM]
theorem acc_iff (bs : List Int) (D : List ByteArray) : acc bs D ↔ rising D ∧ (∀ s ∈ D, fitsT s) ∧ D.length ≤ 65536 ∧ bs = bytesD D := by
  constructor
  · rintro ⟨L, ds, h1, h2, h3, rfl⟩
    refine ⟨dictL_rising L, fun s hs => h2 s ((dictL_mem L s).1 hs), ?_, h3.symm⟩
    have h4 := dictL_len L
    unfold readD at h1
    simp only [] at h1
    split at h1
    · cases h1
    · have h5 := readL_len _ _ _ _ _ h1
      omega
  · rintro ⟨h1, h2, h3, rfl⟩
    exact ⟨D, [], readD_bytesD D (fun s hs => (h2 s hs).2) h3, h2, by rw [dictL_id h1], (dictL_id h1).symm⟩
theorem acc_one {bs : List Int} {D E : List ByteArray} (h : acc bs D) (k : acc bs E) : D = E := by
  obtain ⟨L, ds, h1, _, _, rfl⟩ := h
  obtain ⟨M, es, k1, _, _, rfl⟩ := k
  rw [h1] at k1
  simp at k1
  rw [k1.1]
end Go.Proofs.Ytgegmbkjkiifaaa
