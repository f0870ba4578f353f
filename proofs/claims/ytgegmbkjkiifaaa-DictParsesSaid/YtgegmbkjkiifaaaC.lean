/- The order of texts; rising lists; how many are below a text. -/
import Derived.Test.YtgegmbkjkiifaaaB
import Derived.Sort.OwnSorted
import Derived.Lib.SlicesCompact
namespace Go.Proofs.Ytgegmbkjkiifaaa
open Go.RowKit Go.Lib
set_option linter.unusedSimpArgs false
set_option linter.unusedVariables false
def dat (s : ByteArray) : List UInt8 := s.data.toList
theorem dat_inj {a b : ByteArray} (h : dat a = dat b) : a = b := by
  cases a; cases b; congr 1; exact Array.toList_inj.1 h
def ofD (l : List UInt8) : ByteArray := ⟨l.toArray⟩
theorem dat_of (l : List UInt8) : dat (ofD l) = l := by simp [dat, ofD]
theorem of_dat (s : ByteArray) : ofD (dat s) = s := dat_inj (dat_of _)
def ltT (a b : ByteArray) : Prop := dat a < dat b
instance (a b : ByteArray) : Decidable (ltT a b) := by unfold ltT; infer_instance
theorem lt_irr (a : ByteArray) : ¬ ltT a a := List.lt_irrefl _
theorem lt_tr {a b c : ByteArray} (h : ltT a b) (k : ltT b c) : ltT a c := List.lt_trans h k
theorem lt_asy {a b : ByteArray} (h : ltT a b) : ¬ ltT b a := fun k => lt_irr a (lt_tr h k)
theorem lt_tri (a b : ByteArray) : ltT a b ∨ a = b ∨ ltT b a := by
  by_cases h : ltT a b
  · exact .inl h
  · by_cases k : ltT b a
    · exact .inr (.inr k)
    · exact .inr (.inl (dat_inj (List.le_antisymm (List.not_lt.1 k) (List.not_lt.1 h))))
def rising (D : List ByteArray) : Prop := D.Pairwise ltT
theorem rising_ext : ∀ {D E : List ByteArray}, rising D → rising E → (∀ s, s ∈ D ↔ s ∈ E) → D = E := by
  intro D
  induction D with
  | nil => intro E _ _ h; cases E with
    | nil => rfl
    | cons b E => have := (h b).2 (List.mem_cons_self ..); cases this
  | cons a D ih =>
    intro E hD hE h
    cases E with
    | nil => have := (h a).1 (List.mem_cons_self ..); cases this
    | cons b E =>
      obtain ⟨d1, d2⟩ := List.pairwise_cons.1 hD
      obtain ⟨e1, e2⟩ := List.pairwise_cons.1 hE
      have hab : a = b := by
        have h1 := (h a).1 (List.mem_cons_self ..)
        have h2 := (h b).2 (List.mem_cons_self ..)
        rcases List.mem_cons.1 h1 with h1 | h1
        · exact h1
        · rcases List.mem_cons.1 h2 with h2 | h2
          · exact h2.symm
          · exact absurd (d1 b h2) (lt_asy (e1 a h1))
      subst hab
      congr 1
      refine ih d2 e2 fun s => ⟨fun hs => ?_, fun hs => ?_⟩
      · rcases List.mem_cons.1 ((h s).1 (List.mem_cons_of_mem _ hs)) with e | e
        · exact absurd (e ▸ d1 s hs) (lt_irr s)
        · exact e
      · rcases List.mem_cons.1 ((h s).2 (List.mem_cons_of_mem _ hs)) with e | e
        · exact absurd (e ▸ e1 s hs) (lt_irr s)
        · exact e
theorem rising_lt {D : List ByteArray} (h : rising D) {i j : Nat} (hij : i < j) (hj : j < D.length) : ltT (D[i]'(by omega)) D[j] := List.pairwise_iff_getElem.1 h i j (by omega) hj hij
/-- How many are below a text. -/
def upto : List ByteArray → ByteArray → Nat
  | [], _ => 0
  | a :: D, s => if ltT a s then upto D s + 1 else 0
theorem upto_le (D : List ByteArray) (s : ByteArray) : upto D s ≤ D.length := by
  induction D with
  | nil => exact Nat.le_refl _
  | cons a D ih => unfold upto; split <;> simp <;> omega
theorem upto_spec : ∀ {D : List ByteArray} (hr : rising D) (s : ByteArray) (t : Nat) (h : t < D.length), ltT D[t] s ↔ t < upto D s := by
  intro D
  induction D with
  | nil => intro _ s t h; simp at h
  | cons a D ih =>
    intro hr s t h
    obtain ⟨d1, d2⟩ := List.pairwise_cons.1 hr
    unfold upto
    cases t with
    | zero => simp only [List.getElem_cons_zero]; split <;> simp_all
    | succ t =>
      have ht : t < D.length := by simpa using h
      have := ih d2 s t ht
      simp only [List.getElem_cons_succ, this]
      split
      · omega
      · rename_i hna
        constructor
        · intro h1; exact absurd (lt_tr (d1 _ (List.getElem_mem ht)) (this.2 h1)) hna
        · intro h1; omega
theorem upto_mem {D : List ByteArray} (hr : rising D) (s : ByteArray) : s ∈ D ↔ ∃ h : upto D s < D.length, D[upto D s] = s := by
  constructor
  · intro h
    obtain ⟨i, hi, rfl⟩ := List.mem_iff_getElem.1 h
    have h1 : ¬ i < upto D D[i] := fun k => lt_irr _ ((upto_spec hr D[i] i hi).2 k)
    have h2 : ¬ upto D D[i] < i := fun k => by
      have := (upto_spec hr D[i] (upto D D[i]) (by omega)).1 (rising_lt hr k hi); omega
    have e : upto D D[i] = i := by omega
    exact ⟨by omega, by simp only [e]⟩
  · rintro ⟨h, e⟩; rw [← e]; exact List.getElem_mem h
/-- A sorted list without what stands twice. -/
theorem compact_inv (zs : List (List UInt8)) (hs : zs.Pairwise (· ≤ ·)) : ∀ m, m ≤ zs.length → (compactUpTo zs.toArray m).Pairwise (· < ·) ∧ (∀ x, x ∈ compactUpTo zs.toArray m ↔ x ∈ zs.take m) ∧ ∀ x ∈ compactUpTo zs.toArray m, ∀ h : m - 1 < zs.length, 0 < m → x ≤ zs[m - 1] := by
  intro m
  induction m with
  | zero => intro _; exact ⟨by simp [compactUpTo], by simp [compactUpTo], by simp [compactUpTo]⟩
  | succ m ih =>
    intro hm
    obtain ⟨h1, h2, h3⟩ := ih (by omega)
    have hmz : m < zs.length := by omega
    have eget : ∀ j, (hj : j < zs.length) → zs.toArray[j]! = zs[j] := fun j hj => by simp [hj]
    have hle : ∀ i j, (hij : i < j) → (hj : j < zs.length) → zs[i]'(by omega) ≤ zs[j] := fun i j hij hj => List.pairwise_iff_getElem.1 hs i j (by omega) hj hij
    rw [compactUpTo_succ, eget m hmz]
    have htake : zs.take (m + 1) = zs.take m ++ [zs[m]] := take_snoc zs m hmz
    have h3' : ∀ x ∈ compactUpTo zs.toArray m, x ≤ zs[m] := fun x hx => by
      rcases Nat.eq_zero_or_pos m with h0 | h0
      · subst h0; simp [compactUpTo] at hx
      · exact List.le_trans (h3 x hx (by omega) h0) (hle (m - 1) m (by omega) hmz)
    by_cases hk : keeps zs.toArray m = true
    · rw [if_pos hk]
      refine ⟨?_, fun x => ?_, fun x hx h _ => ?_⟩
      · rw [List.pairwise_append]
        refine ⟨h1, by simp, fun x hx y hy => ?_⟩
        simp at hy; subst hy
        rcases Nat.eq_zero_or_pos m with h0 | h0
        · subst h0; simp [compactUpTo] at hx
        · have hne : zs[m] ≠ zs[m - 1]'(by omega) := by
            unfold keeps at hk
            rw [eget m hmz, eget (m - 1) (by omega)] at hk
            rcases of_decide_eq_true hk with e | e
            · omega
            · exact e
          have hx1 := h3 x hx (by omega) h0
          have hx2 := hle (m - 1) m (by omega) hmz
          have : zs[m - 1]'(by omega) < zs[m] := by
            rcases Decidable.em (zs[m - 1]'(by omega) < zs[m]) with h | h
            · exact h
            · exact absurd (List.le_antisymm (List.not_lt.1 h) hx2) hne
          exact List.lt_of_le_of_lt hx1 this
      · rw [htake, List.mem_append, List.mem_append, h2]
      · simp only [Nat.add_sub_cancel]
        rcases List.mem_append.1 hx with hx | hx
        · exact h3' x hx
        · simp at hx; subst hx; exact List.le_refl _
    · rw [if_neg hk, List.append_nil]
      have h0 : 0 < m := by
        rcases Nat.eq_zero_or_pos m with h0 | h0
        · subst h0; exact absurd (keeps_lt_one _ 0 (by omega)) hk
        · exact h0
      have he : zs[m] = zs[m - 1]'(by omega) := by
        unfold keeps at hk
        rw [eget m hmz, eget (m - 1) (by omega)] at hk
        simp only [decide_eq_true_eq, not_or] at hk
        exact Classical.byContradiction hk.2
      refine ⟨h1, fun x => ?_, fun x hx h _ => h3' x hx⟩
      rw [htake, List.mem_append, h2]
      constructor
      · exact .inl
      · rintro (h | h)
        · exact h
        · simp at h; subst h; rw [he]; exact List.mem_take_iff_getElem.2 ⟨m - 1, by omega, rfl⟩
def sortD (L : List ByteArray) : List (List UInt8) := (L.map dat).mergeSort fun x y => decide (x ≤ y)
def dictL (L : List ByteArray) : List ByteArray := (compact (sortD L)).map ofD
theorem sortD_len (L : List ByteArray) : (sortD L).length = L.length := by unfold sortD; rw [List.length_mergeSort, List.length_map]
theorem sortD_pw (L : List ByteArray) : (sortD L).Pairwise (· ≤ ·) := by
  have := List.pairwise_mergeSort (le := fun x y : List UInt8 => decide (x ≤ y)) (fun a b c h1 h2 => by simp at *; exact List.le_trans h1 h2) (fun a b => by
    rcases List.le_total a b with h | h <;> simp [h]) (L.map dat)
  exact this.imp fun h => of_decide_eq_true h
theorem dictL_rising (L : List ByteArray) : rising (dictL L) := by
  have := (compact_inv (sortD L) (sortD_pw L) (sortD L).length (Nat.le_refl _)).1
  unfold rising dictL compact
  rw [List.pairwise_map]
  exact this.imp fun h => by unfold ltT; rw [dat_of, dat_of]; exact h
theorem dictL_mem (L : List ByteArray) (s : ByteArray) : s ∈ dictL L ↔ s ∈ L := by
  have := (compact_inv (sortD L) (sortD_pw L) (sortD L).length (Nat.le_refl _)).2.1
  unfold dictL compact
  rw [List.mem_map]
  constructor
  · rintro ⟨x, hx, rfl⟩
    rw [this, List.take_length] at hx
    unfold sortD at hx
    rw [List.mem_mergeSort, List.mem_map] at hx
    obtain ⟨y, hy, rfl⟩ := hx
    rw [of_dat]; exact hy
  · intro h
    refine ⟨dat s, ?_, of_dat s⟩
    rw [this, List.take_length]
    unfold sortD
    rw [List.mem_mergeSort]; exact List.mem_map_of_mem h
theorem dictL_len (L : List ByteArray) : (dictL L).length ≤ L.length := by
  unfold dictL compact compactUpTo
  simp only [List.length_map]
  refine Nat.le_trans (List.length_filter_le _ _) ?_
  rw [List.length_range, sortD_len]; exact Nat.le_refl _
end Go.Proofs.Ytgegmbkjkiifaaa
