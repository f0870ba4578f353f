/- What the document's Parse finds on its way, and what Parse takes. -/
import Derived.Test.YtgegmbkjkiifaaaZE
import Derived.Test.YtgegmbkjkiifaaaY
namespace Go.Proofs.Ytgegmbkjkiifaaa
open Go.RowKit Go.Lib
set_option linter.unusedSimpArgs false
set_option linter.unusedVariables false
theorem readL_ext : ∀ (k : Nat) (a : ByteArray) (cs : List Int) (L : List ByteArray) (ds : List Int) (s : ByteArray) (es : List Int), readL k a cs = some (L, ds) → readT (lastT a L) ds = some (s, es) → ∀ m M gs, k < m → readL m a cs = some (M, gs) → ∃ R, M = L ++ s :: R := by
  intro k
  induction k with
  | zero =>
    intro a cs L ds s es h1 h2 m M gs hm h3
    simp [readL] at h1
    obtain ⟨rfl, rfl⟩ := h1
    have h4 : readT a cs = some (s, es) := h2
    cases m with
    | zero => omega
    | succ m =>
      rw [readL, h4] at h3
      simp only [] at h3
      split at h3
      · cases h3
      · rename_i R hs hR
        simp at h3
        exact ⟨R, h3.1.symm⟩
  | succ k ih =>
    intro a cs L ds s es h1 h2 m M gs hm h3
    rw [readL] at h1
    split at h1
    · cases h1
    · rename_i t us ht
      split at h1
      · cases h1
      · rename_i K vs hK
        simp at h1
        obtain ⟨rfl, rfl⟩ := h1
        rw [lastT_cons] at h2
        cases m with
        | zero => omega
        | succ m =>
          rw [readL, ht] at h3
          simp only [] at h3
          split at h3
          · cases h3
          · rename_i Q xs hQ
            simp at h3
            obtain ⟨R, hR⟩ := ih t us K vs s es hK h2 m Q xs (by omega) hQ
            exact ⟨R, by rw [← h3.1, hR]; rfl⟩
theorem lastT_get {a : ByteArray} {L : List ByteArray} {k : Nat} (hk : L.length = k) (h0 : 0 < k) : L[k - 1]'(by omega) = lastT a L := by
  subst hk
  unfold lastT
  rw [List.getLast?_eq_getElem?, List.getElem?_eq_getElem (by omega)]
  rfl
theorem no_acc_next {bs cs ds es : List Int} {m k : Nat} {L : List ByteArray} {s : ByteArray} (h : readD bs = readL m ⟨#[]⟩ cs) (h1 : readL k ⟨#[]⟩ cs = some (L, ds)) (h2 : readT (lastT ⟨#[]⟩ L) ds = some (s, es)) (hk : k < m)
    (hbad : ¬ fitsT s ∨ (0 < k ∧ ¬ ltT (lastT ⟨#[]⟩ L) s)) (D : List ByteArray) : ¬ acc bs D := by
  intro ha
  obtain ⟨r1, r2, r3, r4⟩ := (acc_iff bs D).1 ha
  have h5 := readD_bytesD D (fun s hs => (r2 s hs).2) r3
  rw [← r4, h] at h5
  obtain ⟨R, rfl⟩ := readL_ext k _ _ _ _ _ _ h1 h2 m D [] hk h5
  rcases hbad with hb | ⟨h0, hb⟩
  · exact hb (r2 s (by simp))
  · apply hb
    have hlen := readL_len _ _ _ _ _ h1
    have hr := rising_lt r1 (i := k - 1) (j := k) (by omega) (by simp; omega)
    have e1 : (L ++ s :: R)[k]'(by simp; omega) = s := by
      rw [List.getElem_append_right (by omega)]; simp [hlen]
    have e2 : (L ++ s :: R)[k - 1]'(by simp; omega) = lastT ⟨#[]⟩ L := by
      rw [List.getElem_append_left (by omega)]
      exact lastT_get hlen h0
    rw [e1, e2] at hr
    exact hr
theorem no_acc_left {bs ds : List Int} {L : List ByteArray} (h : readD bs = some (L, ds)) (hd : ds ≠ []) (D : List ByteArray) : ¬ acc bs D := by
  intro ha
  obtain ⟨r1, r2, r3, r4⟩ := (acc_iff bs D).1 ha
  have h5 := readD_bytesD D (fun s hs => (r2 s hs).2) r3
  rw [← r4, h] at h5
  simp at h5
  exact hd h5.2
theorem acc_self {bs ds : List Int} {L : List ByteArray} (h : readD bs = some (L, ds)) (hr : rising L) (hf : ∀ s ∈ L, fitsT s) (he : bytesD L = bs) : acc bs L :=
  ⟨L, ds, h, hf, by rw [dictL_id hr]; exact he, (dictL_id hr).symm⟩
theorem no_acc_other {bs ds : List Int} {L : List ByteArray} (h : readD bs = some (L, ds)) (hr : rising L) (he : bytesD L ≠ bs) (D : List ByteArray) : ¬ acc bs D := by
  rintro ⟨M, es, h1, _, h3, _⟩
  rw [h] at h1
  simp at h1
  rw [← h1.1, dictL_id hr] at h3
  exact he h3
theorem rising_snoc {L : List ByteArray} {s : ByteArray} (hr : rising L) (h : L = [] ∨ ltT (lastT ⟨#[]⟩ L) s) : rising (L ++ [s]) := by
  unfold rising
  rw [List.pairwise_append]
  refine ⟨hr, List.pairwise_singleton _ _, ?_⟩
  intro x hx y hy
  simp at hy
  subst hy
  rcases h with rfl | h
  · cases hx
  · obtain ⟨i, hi, rfl⟩ := List.mem_iff_getElem.1 hx
    have e : lastT ⟨#[]⟩ L = L[L.length - 1]'(by omega) := by
      unfold lastT
      rw [List.getLast?_eq_getElem?, List.getElem?_eq_getElem (by omega)]
      rfl
    rw [e] at h
    by_cases h1 : i = L.length - 1
    · subst h1; exact h
    · exact lt_tr (rising_lt hr (i := i) (j := L.length - 1) (by omega) (by omega)) h
end Go.Proofs.Ytgegmbkjkiifaaa
