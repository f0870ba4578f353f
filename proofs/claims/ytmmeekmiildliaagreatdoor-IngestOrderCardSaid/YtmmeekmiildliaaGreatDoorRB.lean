/- The order of rows; what a stable sort leaves. -/
import Derived.Test.YtmmeekmiildliaaGreatDoorRA
import Derived.Sort.LotA
namespace Go.Proofs.YtmmeekmiildliaaGreatDoor
open Go.RowKit
set_option linter.unusedSimpArgs false
set_option linter.unusedVariables false
theorem cmpT_neg (a b : ByteArray) : cmpT b a = - cmpT a b := by
  unfold cmpT
  rcases lt_tri a b with h | rfl | h
  · simp [h, lt_asy h]
  · simp [lt_irr a]
  · simp [h, lt_asy h]
theorem cmpT_lt {a b : ByteArray} : cmpT a b < 0 ↔ ltT a b := by
  unfold cmpT
  rcases lt_tri a b with h | rfl | h
  · simp [h]
  · simp [lt_irr a]
  · simp [h, lt_asy h]
theorem cmpI_neg (a b : Int) : cmpI b a = - cmpI a b := by
  unfold cmpI
  rcases Int.lt_trichotomy a b with h | rfl | h
  · simp [h, show ¬ b < a by omega]
  · simp
  · simp [h, show ¬ a < b by omega]
theorem cmpI_lt {a b : Int} : cmpI a b < 0 ↔ a < b := by
  unfold cmpI
  rcases Int.lt_trichotomy a b with h | rfl | h
  · simp [h]
  · simp
  · rw [if_neg (by omega), if_pos h]; constructor <;> intro <;> omega
theorem cmpL_neg : ∀ L M : List ByteArray, cmpL M L = - cmpL L M := by
  intro L
  induction L with
  | nil => intro M; cases M <;> rfl
  | cons a L ih =>
    intro M
    cases M with
    | nil => rfl
    | cons b M =>
      rw [cmpL, cmpL, cmpT_neg a b]
      by_cases h : cmpT a b = 0
      · rw [h, if_pos (by rfl), if_pos rfl, ih M]
      · rw [if_neg (by omega), if_neg h]
theorem cmpL_tr : ∀ L M N : List ByteArray, cmpL L M < 0 → cmpL M N < 0 → cmpL L N < 0 := by
  intro L
  induction L with
  | nil =>
    intro M N h1 h2
    cases M with
    | nil => simp [cmpL] at h1
    | cons b M => cases N with
      | nil => simp [cmpL] at h2
      | cons c N => simp [cmpL]
  | cons a L ih =>
    intro M N h1 h2
    cases M with
    | nil => simp [cmpL] at h1
    | cons b M => cases N with
      | nil => simp [cmpL] at h2
      | cons c N =>
        rw [cmpL] at h1 h2 ⊢
        by_cases e1 : cmpT a b = 0
        · rw [if_pos e1] at h1
          obtain rfl := cmpT_zero.1 e1
          by_cases e2 : cmpT a c = 0
          · rw [if_pos e2] at h2 ⊢; exact ih _ _ h1 h2
          · rw [if_neg e2] at h2 ⊢; exact h2
        · rw [if_neg e1] at h1
          by_cases e2 : cmpT b c = 0
          · obtain rfl := cmpT_zero.1 e2
            rw [if_neg e1]; exact h1
          · rw [if_neg e2] at h2
            have h3 := cmpT_lt.2 (lt_tr (cmpT_lt.1 h1) (cmpT_lt.1 h2))
            rw [if_neg (by omega)]; exact h3
def cmpV (a b : RV) : Int := cmpK a.t b.t a.dims b.dims
theorem cmpV_zero {a b : RV} : cmpV a b = 0 ↔ a.dims = b.dims ∧ a.t = b.t := cmpK_zero _ _ _ _
theorem cmpV_neg (a b : RV) : cmpV b a = - cmpV a b := by
  unfold cmpV cmpK
  rw [cmpI_neg a.t b.t, cmpL_neg a.dims b.dims]
  by_cases h : cmpI a.t b.t = 0
  · rw [if_pos (by omega), if_pos h]
  · rw [if_neg (by omega), if_neg h]
theorem cmpV_tr {a b c : RV} (h1 : cmpV a b < 0) (h2 : cmpV b c < 0) : cmpV a c < 0 := by
  unfold cmpV cmpK at *
  by_cases e1 : cmpI a.t b.t = 0
  · rw [if_pos e1] at h1
    rw [cmpI_zero.1 e1]
    by_cases e2 : cmpI b.t c.t = 0
    · rw [if_pos e2] at h2 ⊢; exact cmpL_tr _ _ _ h1 h2
    · rw [if_neg e2] at h2 ⊢; exact h2
  · rw [if_neg e1] at h1
    by_cases e2 : cmpI b.t c.t = 0
    · rw [← cmpI_zero.1 e2, if_neg e1]; exact h1
    · rw [if_neg e2] at h2
      have h3 := cmpI_lt.2 (Int.lt_trans (cmpI_lt.1 h1) (cmpI_lt.1 h2))
      rw [if_neg (by omega)]; exact h3
theorem cmpV_left {a b : RV} (h : cmpV a b = 0) (c : RV) : cmpV a c = cmpV b c := by
  obtain ⟨h1, h2⟩ := cmpV_zero.1 h
  unfold cmpV; rw [h1, h2]
theorem cmpV_right {a b : RV} (h : cmpV a b = 0) (c : RV) : cmpV c a = cmpV c b := by
  obtain ⟨h1, h2⟩ := cmpV_zero.1 h
  unfold cmpV; rw [h1, h2]
theorem cmpV_self (a : RV) : cmpV a a = 0 := cmpV_zero.2 ⟨rfl, rfl⟩
theorem cmpT_three (a b : ByteArray) : cmpT a b = -1 ∨ cmpT a b = 0 ∨ cmpT a b = 1 := by
  unfold cmpT
  rcases lt_tri a b with h | rfl | h
  · left; rw [if_pos h]
  · right; left; rw [if_neg (lt_irr a), if_neg (lt_irr a)]
  · right; right; rw [if_neg (lt_asy h), if_pos h]
theorem cmpL_three : ∀ L M : List ByteArray, cmpL L M = -1 ∨ cmpL L M = 0 ∨ cmpL L M = 1 := by
  intro L
  induction L with
  | nil => intro M; cases M <;> simp [cmpL]
  | cons a L ih =>
    intro M
    cases M with
    | nil => simp [cmpL]
    | cons b M =>
      rw [cmpL]
      by_cases h : cmpT a b = 0
      · rw [if_pos h]; exact ih M
      · rw [if_neg h]; exact cmpT_three a b
theorem cmpV_three (a b : RV) : cmpV a b = -1 ∨ cmpV a b = 0 ∨ cmpV a b = 1 := by
  unfold cmpV cmpK
  by_cases h : cmpI a.t b.t = 0
  · rw [if_pos h]; exact cmpL_three _ _
  · rw [if_neg h]; unfold cmpI
    rcases Int.lt_trichotomy a.t b.t with h | h | h
    · left; rw [if_pos h]
    · right; left; rw [if_neg (by omega), if_neg (by omega)]
    · right; right; rw [if_neg (by omega), if_pos h]
/-- Of one key. -/
def keyV (a b : RV) : Bool := decide (cmpV a b = 0)
/-- What a stable sort leaves. -/
structure SortsTo (K K' : List RV) : Prop where
  sorted : K'.Pairwise fun a b => cmpV a b ≤ 0
  same : ∀ k, K'.filter (keyV k) = K.filter (keyV k)
theorem sorts_head {a : RV} {L M : List RV} (hs : M.Pairwise fun a b => cmpV a b ≤ 0) (hf : ∀ k, (a :: L).filter (keyV k) = M.filter (keyV k)) :
    ∃ b N, M = b :: N ∧ cmpV b a ≤ 0 := by
  have h := hf a
  have ha : a ∈ M := by
    have : a ∈ (a :: L).filter (keyV a) := List.mem_filter.2 ⟨List.mem_cons_self .., by simp [keyV, cmpV_self]⟩
    rw [h] at this; exact (List.mem_filter.1 this).1
  cases M with
  | nil => cases ha
  | cons b N =>
    refine ⟨b, N, rfl, ?_⟩
    rcases List.mem_cons.1 ha with rfl | h1
    · rw [cmpV_self]; exact Int.le_refl _
    · exact List.rel_of_pairwise_cons hs h1
theorem sorted_one : ∀ (L M : List RV), (L.Pairwise fun a b => cmpV a b ≤ 0) → (M.Pairwise fun a b => cmpV a b ≤ 0) → (∀ k, L.filter (keyV k) = M.filter (keyV k)) → L = M := by
  intro L
  induction L with
  | nil =>
    intro M _ hM hf
    cases M with
    | nil => rfl
    | cons b N => have := hf b; simp [List.filter_cons, keyV, cmpV_self] at this
  | cons a L ih =>
    intro M hL hM hf
    obtain ⟨b, N, rfl, hba⟩ := sorts_head hM hf
    obtain ⟨a', L', e, hab⟩ := sorts_head hL (fun k => (hf k).symm)
    cases e
    have hz : cmpV a b = 0 := by have := cmpV_neg a b; omega
    have hab2 : a = b := by
      have := hf a
      rw [List.filter_cons, if_pos (by simp [keyV, cmpV_self]), List.filter_cons, if_pos (by simp [keyV, hz])] at this
      exact (List.cons.inj this).1
    subst hab2
    congr 1
    refine ih N (List.Pairwise.of_cons hL) (List.Pairwise.of_cons hM) fun k => ?_
    have := hf k
    rw [List.filter_cons, List.filter_cons] at this
    by_cases h : keyV k a = true
    · rw [if_pos h, if_pos h] at this; exact (List.cons.inj this).2
    · rw [if_neg h, if_neg h] at this; exact this
theorem SortsTo.uniq {K A B : List RV} (h : SortsTo K A) (g : SortsTo K B) : A = B := sorted_one A B h.sorted g.sorted fun k => (h.same k).trans (g.same k).symm
section
open Go.Sort
variable {α : Type} [Inhabited α]
theorem swp_list (d : Array α) (j : Nat) (h : j + 1 < d.size) : ∃ A x y B, d.toList = A ++ x :: y :: B ∧ (swp d (j + 1) j).toList = A ++ y :: x :: B ∧ d[j]! = x ∧ d[j + 1]! = y := by
  refine ⟨d.toList.take j, d[j]!, d[j + 1]!, d.toList.drop (j + 2), ?_, ?_, rfl, rfl⟩
  · have e1 : d.toList = d.toList.take j ++ d.toList.drop j := (List.take_append_drop _ _).symm
    conv => lhs; rw [e1]
    congr 1
    rw [List.drop_eq_getElem_cons (by simp; omega), List.drop_eq_getElem_cons (by simp; omega)]
    simp [getElem!_pos, h, show j < d.size by omega]
  · apply List.ext_getElem?
    intro i
    have hs : (swp d (j + 1) j)[i]? = if i = j then some d[j + 1]! else if i = j + 1 then some d[j]! else d[i]? := by
      unfold swp
      rw [Array.getElem?_setIfInBounds, Array.getElem?_setIfInBounds]
      have h1 : j < d.size := by omega
      by_cases e1 : j = i
      · subst e1; simp [h1, h]
      · rw [if_neg e1, if_neg (Ne.symm e1)]
        by_cases e2 : j + 1 = i
        · subst e2; simp [h]
        · rw [if_neg e2, if_neg (Ne.symm e2)]
    rw [Array.getElem?_toList, hs]
    rcases Nat.lt_trichotomy i j with hi | hi | hi
    · rw [if_neg (by omega), if_neg (by omega), List.getElem?_append_left (by simp; omega), List.getElem?_take_of_lt hi, Array.getElem?_toList]
    · subst hi; rw [if_pos rfl, List.getElem?_append_right (by simp; omega)]; simp [show min i d.size = i by omega]
    · rw [if_neg (by omega), List.getElem?_append_right (by simp; omega)]
      have e : (d.toList.take j).length = j := by simp; omega
      rw [e]
      by_cases e2 : i = j + 1
      · subst e2; simp
      · rw [if_neg e2]
        obtain ⟨q, rfl⟩ : ∃ q, i = j + 2 + q := ⟨i - (j + 2), by omega⟩
        rw [show j + 2 + q - j = q + 2 by omega]
        simp
variable {lt : α → α → Bool}
theorem swp_filter (p : α → Bool) (hp : ∀ x y, p x = true → p y = true → lt x y = false) (d : Array α) (j : Nat) (h : j + 1 < d.size) (hl : lt d[j + 1]! d[j]! = true) : (swp d (j + 1) j).toList.filter p = d.toList.filter p := by
  obtain ⟨A, x, y, B, e1, e2, e3, e4⟩ := swp_list d j h
  rw [e1, e2, List.filter_append, List.filter_append, List.filter_cons, List.filter_cons, List.filter_cons, List.filter_cons]
  rw [e3, e4] at hl
  by_cases px : p x = true
  · have py : ¬ p y = true := fun py => by rw [hp y x py px] at hl; cases hl
    rw [if_pos px, if_neg py, if_pos px]
    simp [py]
  · rw [if_neg px, if_neg px]
theorem insInner_filter (p : α → Bool) (hp : ∀ x y, p x = true → p y = true → lt x y = false) (a : Nat) : ∀ (j : Nat) (d : Array α), j < d.size → (insInner lt a j d).toList.filter p = d.toList.filter p ∧ (insInner lt a j d).size = d.size := by
  intro j
  induction j with
  | zero => intro d _; exact ⟨rfl, rfl⟩
  | succ j ih =>
    intro d h
    rw [insInner]
    by_cases hc : (decide (j + 1 > a) && lt d[j + 1]! d[j]!) = true
    · rw [if_pos hc]
      have hl : lt d[j + 1]! d[j]! = true := by simp only [Bool.and_eq_true] at hc; exact hc.2
      have h2 := ih (swp d (j + 1) j) (by simp [swp]; omega)
      exact ⟨h2.1.trans (swp_filter p hp d j h hl), h2.2.trans (by simp [swp])⟩
    · rw [if_neg hc]; exact ⟨rfl, rfl⟩
theorem insOuter_filter (p : α → Bool) (hp : ∀ x y, p x = true → p y = true → lt x y = false) (a b : Nat) : ∀ (n i : Nat) (d : Array α), n = b - i → b ≤ d.size → (insOuter lt a b i d).toList.filter p = d.toList.filter p ∧ (insOuter lt a b i d).size = d.size := by
  intro n
  induction n with
  | zero => intro i d hn hb; rw [insOuter, if_neg (by omega)]; exact ⟨rfl, rfl⟩
  | succ n ih =>
    intro i d hn hb
    rw [insOuter, if_pos (by omega)]
    have h1 := insInner_filter (lt := lt) p hp a i d (by omega)
    have h2 := ih (i + 1) (insInner lt a i d) (by omega) (by omega)
    exact ⟨h2.1.trans h1.1, h2.2.trans h1.2⟩
end
theorem cmpV_swo {α : Type} (f : α → RV) : Go.Sort.SWO (fun x y => decide (cmpV (f x) (f y) < 0)) where
  irrefl x := by simp [cmpV_self]
  trans x y z h1 h2 := by simp only [decide_eq_true_eq] at *; exact cmpV_tr h1 h2
  ntrans x y z h1 h2 := by
    simp only [decide_eq_false_iff_not] at *
    intro h3
    rcases Int.lt_or_le (cmpV (f y) (f x)) 0 with h4 | h4
    · exact h2 (cmpV_tr h4 h3)
    · have := cmpV_neg (f y) (f x)
      have h5 : cmpV (f x) (f y) = 0 := by omega
      rw [cmpV_left h5] at h3; exact h2 h3
theorem ins_sorts {α : Type} [Inhabited α] (f : α → RV) (d : Array α) : SortsTo (d.toList.map f) ((Go.Sort.insertionSort (fun x y => decide (cmpV (f x) (f y) < 0)) d 0 d.size).toList.map f) := by
  have hs := Go.Sort.insertionSort_holds (lt := fun x y => decide (cmpV (f x) (f y) < 0)) (cmpV_swo f) d 0 d.size (Nat.zero_le _) (Nat.le_refl _)
  constructor
  · rw [List.pairwise_iff_getElem]
    intro i j hi hj hij
    have hz : (Go.Sort.insertionSort (fun x y => decide (cmpV (f x) (f y) < 0)) d 0 d.size).size = d.size := hs.1.1
    have h := hs.2 i j (Nat.zero_le _) hij (by simpa [hz] using hj)
    simp only [decide_eq_false_iff_not] at h
    have hi' : i < (Go.Sort.insertionSort (fun x y => decide (cmpV (f x) (f y) < 0)) d 0 d.size).size := by simpa using hi
    have hj' : j < (Go.Sort.insertionSort (fun x y => decide (cmpV (f x) (f y) < 0)) d 0 d.size).size := by simpa using hj
    rw [getElem!_pos _ i hi', getElem!_pos _ j hj'] at h
    simp only [List.getElem_map, Array.getElem_toList]
    rw [cmpV_neg]
    omega
  · intro k
    rw [List.filter_map, List.filter_map]
    congr 1
    refine (insOuter_filter (lt := fun x y => decide (cmpV (f x) (f y) < 0)) _ (fun x y hx hy => ?_) 0 d.size _ 1 d rfl (Nat.le_refl _)).1
    simp only [Function.comp, keyV, decide_eq_true_eq] at hx hy
    simp only [decide_eq_false_iff_not]
    rw [← cmpV_left hx, hy]; omega
theorem SortsTo.mem {K K' : List RV} (h : SortsTo K K') {z : RV} (hz : z ∈ K') : z ∈ K := by
  have : z ∈ K'.filter (keyV z) := List.mem_filter.2 ⟨hz, by simp [keyV, cmpV_self]⟩
  rw [h.same] at this
  exact (List.mem_filter.1 this).1
end Go.Proofs.YtmmeekmiildliaaGreatDoor
