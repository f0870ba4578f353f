/- Folded row by row, or sorted and then joined: one. -/
import Derived.Test.YtmmeekmiildliaaGreatDoorML
import Derived.Test.YtmmeekmiildliaaGreatDoorMZ
namespace Go.Proofs.YtmmeekmiildliaaGreatDoor
open Go.RowKit
set_option linter.unusedSimpArgs false
set_option linter.unusedVariables false
/-- A row whose count and aggs are right, with so many aggs. -/
structure OkR (q : Nat) (a : RV) : Prop where
  lo : 0 ≤ a.count
  hi : a.count ≤ 1048576
  len : a.aggs.length = q
  aggs : ∀ g ∈ a.aggs, okA g
theorem joinA_okA {a b : Ag} (ha : okA a) (hb : okA b) : ((joinA (toA3 a) (toA3 b)).2 = 0 ∧ okA (ofA3 (joinA (toA3 a) (toA3 b)).1)) ∨ (joinA (toA3 a) (toA3 b)).2 = 121 := by
  have h1 : (toA3 a).right = true := ha
  have h2 : (toA3 b).right = true := hb
  by_cases h3 : fit1 ((toA3 a).s + (toA3 b).s) = true
  · left
    rw [joinA_ok h1 h2 h3]
    refine ⟨rfl, ?_⟩
    unfold okA at *
    unfold rightB at *
    simp only [Bool.and_eq_true, decide_eq_true_eq, ofA3, toA3] at *
    refine ⟨⟨⟨h3, ?_⟩, ?_⟩, ?_⟩
    · rcases Int.le_total a.2.1 b.2.1 with h | h
      · rw [Int.min_eq_left h]; exact ha.1.1.2
      · rw [Int.min_eq_right h]; exact hb.1.1.2
    · rcases Int.le_total a.2.2 b.2.2 with h | h
      · rw [Int.max_eq_right h]; exact hb.1.2
      · rw [Int.max_eq_left h]; exact ha.1.2
    · have h4 := ha.2
      have h5 := hb.2
      refine decide_eq_true ?_
      show min a.2.1 b.2.1 ≤ max a.2.2 b.2.2
      omega
  · right
    rw [joinA_over h1 h2 (by simpa using h3)]
theorem joinG_okA : ∀ L M : List Ag, L.length = M.length → (∀ g ∈ L, okA g) → (∀ g ∈ M, okA g) → ((joinG L M).2 = 0 ∧ ∀ g ∈ (joinG L M).1, okA g) ∨ (joinG L M).2 = 121 := by
  intro L
  induction L with
  | nil => intro M _ _ _; left; cases M <;> exact ⟨rfl, fun g h => by cases h⟩
  | cons a L ih =>
    intro M hl hA hB
    cases M with
    | nil => simp at hl
    | cons b M =>
      rw [joinG]
      rcases joinA_okA (hA a (List.mem_cons_self ..)) (hB b (List.mem_cons_self ..)) with ⟨h1, h2⟩ | h1
      · rw [if_pos h1]
        rcases ih M (by simpa using hl) (fun g h => hA g (List.mem_cons_of_mem _ h)) (fun g h => hB g (List.mem_cons_of_mem _ h)) with ⟨h3, h4⟩ | h3
        · rw [if_pos h3]
          left
          refine ⟨rfl, fun g hg => ?_⟩
          rcases List.mem_cons.1 hg with rfl | hg
          · exact h2
          · exact h4 g hg
        · rw [if_neg (by omega)]; right; exact h3
      · rw [if_neg (by omega)]; right; exact h1
theorem joinR_okR {q : Nat} {a b : RV} (ha : OkR q a) (hb : OkR q b) (hk : cmpV a b = 0) : ((joinR a b).2 = 0 ∧ OkR q (joinR a b).1 ∧ cmpV (joinR a b).1 a = 0) ∨ (joinR a b).2 = 121 := by
  have hl : a.aggs.length = b.aggs.length := by rw [ha.len, hb.len]
  unfold joinR
  rw [if_pos ⟨hk, hl⟩]
  by_cases h2 : 1048576 < a.count + b.count
  · rw [if_pos h2]; right; rfl
  · rw [if_neg h2]
    rcases joinG_okA a.aggs b.aggs hl ha.aggs hb.aggs with ⟨h3, h4⟩ | h3
    · rw [if_pos h3]
      left
      have := ha.lo; have := hb.lo
      exact ⟨rfl, ⟨by show 0 ≤ a.count + b.count; omega, by show a.count + b.count ≤ _; omega, by show (joinG a.aggs b.aggs).1.length = q; rw [joinG_len _ _ hl h3]; exact ha.len, h4⟩, cmpV_zero.2 ⟨rfl, rfl⟩⟩
    · rw [if_neg (by omega)]; right; exact h3
/-- What rows of one key come to. -/
def grp : List RV → List RV × Int
  | [] => ([], 0)
  | a :: M => ([(joinAll a M).1], (joinAll a M).2)
theorem joinAll_ok {q : Nat} : ∀ (M : List RV) (a : RV), OkR q a → (∀ b ∈ M, OkR q b ∧ cmpV a b = 0) → ((joinAll a M).2 = 0 ∧ OkR q (joinAll a M).1 ∧ cmpV (joinAll a M).1 a = 0) ∨ (joinAll a M).2 = 121 := by
  intro M
  induction M with
  | nil => intro a ha _; left; exact ⟨rfl, ha, cmpV_self _⟩
  | cons b M ih =>
    intro a ha hM
    rw [joinAll]
    have hb := hM b (List.mem_cons_self ..)
    rcases joinR_okR ha hb.1 hb.2 with ⟨h1, h2, h3⟩ | h1
    · rw [if_pos h1]
      rcases ih _ h2 (fun c hc => ⟨(hM c (List.mem_cons_of_mem _ hc)).1, by rw [cmpV_left h3]; exact (hM c (List.mem_cons_of_mem _ hc)).2⟩) with ⟨h4, h5, h6⟩ | h4
      · left; exact ⟨h4, h5, by rw [cmpV_left h6]; exact h3⟩
      · right; exact h4
    · rw [if_neg (by omega)]; right; exact h1
theorem joinR_err {a b : RV} (h : (joinR a b).2 ≠ 0) : (joinR a b).1 = RV.zero := by
  unfold joinR at h ⊢
  split
  · rename_i h1
    rw [if_pos h1] at h
    split
    · rfl
    · rename_i h2
      rw [if_neg h2] at h
      split
      · rename_i h3; rw [if_pos h3] at h; exact absurd rfl h
      · rfl
  · rfl
theorem joinAll_snoc : ∀ (M : List RV) (a b : RV), joinAll a (M ++ [b]) = if (joinAll a M).2 = 0 then joinR (joinAll a M).1 b else joinAll a M := by
  intro M
  induction M with
  | nil =>
    intro a b
    rw [List.nil_append, joinAll, joinAll, joinAll]
    simp only [if_true]
    by_cases h : (joinR a b).2 = 0
    · rw [if_pos h, ← h]
    · rw [if_neg h, ← joinR_err h]
  | cons c M ih =>
    intro a b
    rw [List.cons_append, joinAll, joinAll]
    by_cases h : (joinR a c).2 = 0
    · rw [if_pos h, if_pos h]; exact ih _ _
    · rw [if_neg h, if_neg h, if_neg h]
theorem grp_snoc (L : List RV) (b : RV) : grp (L ++ [b]) = match L with
    | [] => ([b], 0)
    | a :: M => if (joinAll a M).2 = 0 then ([(joinR (joinAll a M).1 b).1], (joinR (joinAll a M).1 b).2) else grp (a :: M) := by
  cases L with
  | nil => rfl
  | cons a M =>
    show ([(joinAll a (M ++ [b])).1], (joinAll a (M ++ [b])).2) = _
    rw [joinAll_snoc]
    by_cases h : (joinAll a M).2 = 0
    · simp only [if_pos h]
    · simp only [if_neg h]; rfl
/-- Sorted, one row a key. -/
def Strict (O : List RV) : Prop := O.Pairwise fun a b => cmpV a b < 0
theorem Strict.sorted {O : List RV} (h : Strict O) : O.Pairwise fun a b => cmpV a b ≤ 0 := h.imp fun h => Int.le_of_lt h
/-- O is what K folds to. -/
structure FoldOf (K O : List RV) : Prop where
  strict : Strict O
  same : ∀ k, O.filter (keyV k) = (grp (K.filter (keyV k))).1
  ok : ∀ k, (grp (K.filter (keyV k))).2 = 0
theorem FoldOf.uniq {K O P : List RV} (h : FoldOf K O) (g : FoldOf K P) : O = P := sorted_one O P h.strict.sorted g.strict.sorted fun k => (h.same k).trans (g.same k).symm
theorem FoldOf.nil : FoldOf [] [] := ⟨List.Pairwise.nil, fun k => rfl, fun k => rfl⟩
theorem keyV_left {a b : RV} (h : cmpV a b = 0) : keyV a = keyV b := by funext c; unfold keyV; rw [cmpV_left h]
theorem keyV_self (a : RV) : keyV a a = true := by simp [keyV, cmpV_self]
theorem keyV_sym (a b : RV) : keyV a b = keyV b a := by
  unfold keyV; rw [cmpV_neg b a]
  congr 1; simp
/-- Below x, all of them. -/
def below (x : RV) : RV → Bool := fun o => decide (cmpV o x < 0)
def insK (O : List RV) (x : RV) : List RV × Int :=
  match O.dropWhile (below x) with
  | [] => (O.takeWhile (below x) ++ [x], 0)
  | r :: R => if cmpV r x = 0 then (if (joinR r x).2 = 0 then (O.takeWhile (below x) ++ (joinR r x).1 :: R, 0) else ([], (joinR r x).2)) else (O.takeWhile (below x) ++ x :: r :: R, 0)
def refF : List RV → List RV → List RV × Int
  | O, [] => (O, 0)
  | O, x :: L => if (insK O x).2 = 0 then refF (insK O x).1 L else ([], (insK O x).2)
theorem takeWhile_all {α : Type} (p : α → Bool) : ∀ L : List α, ∀ x ∈ L.takeWhile p, p x = true := by
  intro L
  induction L with
  | nil => intro x h; cases h
  | cons a L ih =>
    intro x h
    rw [List.takeWhile_cons] at h
    by_cases hp : p a = true
    · rw [if_pos hp] at h
      rcases List.mem_cons.1 h with rfl | h
      · exact hp
      · exact ih x h
    · rw [if_neg hp] at h; cases h
theorem dropWhile_head {α : Type} (p : α → Bool) : ∀ (L : List α) {r : α} {R : List α}, L.dropWhile p = r :: R → p r = false := by
  intro L
  induction L with
  | nil => intro r R h; cases h
  | cons a L ih =>
    intro r R h
    rw [List.dropWhile_cons] at h
    by_cases hp : p a = true
    · rw [if_pos hp] at h; exact ih h
    · rw [if_neg hp] at h; cases h; simpa using hp
theorem filter_none {L : List RV} {k : RV} (h : ∀ a ∈ L, cmpV k a ≠ 0) : L.filter (keyV k) = [] := by
  rw [List.filter_eq_nil_iff]
  intro a ha hk
  exact h a ha (by simpa [keyV] using hk)
theorem insK_step {q : Nat} {K O : List RV} {x : RV} (h : FoldOf K O) (hK : ∀ a ∈ K, OkR q a) (hO : ∀ a ∈ O, OkR q a) (hx : OkR q x) :
    ((insK O x).2 = 0 ∧ FoldOf (K ++ [x]) (insK O x).1 ∧ ∀ a ∈ (insK O x).1, OkR q a) ∨ ((insK O x).2 = 121 ∧ ∃ k, (grp ((K ++ [x]).filter (keyV k))).2 ≠ 0) := by
  have hsplit : O = O.takeWhile (below x) ++ O.dropWhile (below x) := List.takeWhile_append_dropWhile.symm
  have hT : ∀ a ∈ O.takeWhile (below x), cmpV a x < 0 := fun a ha => by simpa [below] using takeWhile_all _ _ a ha
  have hst := h.strict
  unfold Strict at hst
  rw [hsplit, List.pairwise_append] at hst
  obtain ⟨s1, s2, s3⟩ := hst
  -- other keys
  have other : ∀ k, cmpV k x ≠ 0 → (K ++ [x]).filter (keyV k) = K.filter (keyV k) := fun k hk => by
    rw [List.filter_append, filter_none (L := [x]) (fun a ha => by rw [List.mem_singleton.1 ha]; exact hk), List.append_nil]
  have own : ∀ k, cmpV k x = 0 → (K ++ [x]).filter (keyV k) = K.filter (keyV x) ++ [x] := fun k hk => by
    rw [keyV_left hk, List.filter_append]; simp [List.filter_cons, keyV_self]
  have hTx : (O.takeWhile (below x)).filter (keyV x) = [] := filter_none fun a ha => by have := hT a ha; have := cmpV_neg a x; omega
  have hof := h.same x
  have hok := h.ok x
  rw [hsplit, List.filter_append, hTx, List.nil_append] at hof
  unfold insK
  rcases hD : O.dropWhile (below x) with _ | ⟨r, R⟩
  · -- behind all
    simp only
    rw [hD] at hof hsplit
    left
    have hnone : K.filter (keyV x) = [] := by
      rcases hF : K.filter (keyV x) with _ | ⟨a, M⟩
      · rfl
      · rw [hF] at hof; simp [grp] at hof
    refine ⟨by trivial, ⟨List.pairwise_append.2 ⟨s1, List.pairwise_singleton _ _, fun a ha b hb => by rw [List.mem_singleton.1 hb]; exact hT a ha⟩, fun k => ?_, fun k => ?_⟩, fun a ha => ?_⟩
    · by_cases hk : cmpV k x = 0
      · rw [own k hk, hnone, keyV_left hk, List.filter_append, hTx]; simp [List.filter_cons, keyV_self, grp, joinAll]
      · rw [other k hk, ← h.same k, List.filter_append, filter_none (L := [x]) (fun a ha => by rw [List.mem_singleton.1 ha]; exact hk), List.append_nil]
        conv => rhs; rw [hsplit, List.append_nil]
    · by_cases hk : cmpV k x = 0
      · rw [own k hk, hnone]; rfl
      · rw [other k hk]; exact h.ok k
    · rcases List.mem_append.1 ha with ha | ha
      · exact hO a (by rw [hsplit, List.append_nil]; exact ha)
      · rw [List.mem_singleton.1 ha]; exact hx
  · simp only
    have hr : ¬ cmpV r x < 0 := by have := dropWhile_head _ _ hD; simpa [below] using this
    rw [hD] at hof hsplit s2 s3
    rw [List.pairwise_cons] at s2
    have hrO : r ∈ O := by rw [hsplit]; simp
    have hRx : ∀ a ∈ R, cmpV x a < 0 := fun a ha => by
      have h1 := s2.1 a ha
      have h2 := cmpV_neg r x
      rcases Int.lt_or_eq_of_le (show cmpV x r ≤ 0 by omega) with h3 | h3
      · exact cmpV_tr h3 h1
      · rw [cmpV_left h3]; exact h1
    have hRk : ∀ k, cmpV k x = 0 → R.filter (keyV k) = [] := fun k hk => by
      rw [keyV_left hk]; exact filter_none fun a ha => by have := hRx a ha; omega
    by_cases hkr : cmpV r x = 0
    · rw [if_pos hkr]
      rw [List.filter_cons, if_pos (by rw [keyV_sym]; simp [keyV, hkr]), hRk x (cmpV_self x)] at hof
      rcases hF : K.filter (keyV x) with _ | ⟨a, M⟩
      · rw [hF] at hof; simp [grp] at hof
      · rw [hF] at hof hok
        have hra : r = (joinAll a M).1 := by simpa [grp] using hof
        have ha0 : (joinAll a M).2 = 0 := hok
        have hg : grp (K.filter (keyV x) ++ [x]) = ([(joinR r x).1], (joinR r x).2) := by
          rw [hF, grp_snoc]; simp only [if_pos ha0, ← hra]
        rcases joinR_okR (hO r hrO) hx hkr with ⟨h1, h2, h3⟩ | h1
        · rw [if_pos h1]
          left
          have hjx : cmpV (joinR r x).1 x = 0 := by rw [cmpV_left h3]; exact hkr
          refine ⟨rfl, ⟨List.pairwise_append.2 ⟨s1, List.pairwise_cons.2 ⟨fun b hb => by rw [cmpV_left h3]; exact s2.1 b hb, s2.2⟩, fun b hb c hc => ?_⟩, fun k => ?_, fun k => ?_⟩, fun b hb => ?_⟩
          · rcases List.mem_cons.1 hc with rfl | hc
            · rw [cmpV_right h3]; exact s3 b hb r (List.mem_cons_self ..)
            · exact s3 b hb c (List.mem_cons_of_mem _ hc)
          · by_cases hk : cmpV k x = 0
            · rw [own k hk, hg, keyV_left hk, List.filter_append, hTx, List.filter_cons, if_pos (by rw [keyV_sym]; simp [keyV, hjx]), hRk x (cmpV_self x)]; rfl
            · rw [other k hk, ← h.same k]
              conv => rhs; rw [hsplit]
              rw [List.filter_append, List.filter_append, List.filter_cons, List.filter_cons, if_neg (by simp only [keyV, decide_eq_true_eq]; rw [cmpV_right hjx]; exact hk), if_neg (by simp only [keyV, decide_eq_true_eq]; rw [cmpV_right hkr]; exact hk)]
          · by_cases hk : cmpV k x = 0
            · rw [own k hk, hg]; exact h1
            · rw [other k hk]; exact h.ok k
          · rcases List.mem_append.1 hb with hb | hb
            · exact hO b (by rw [hsplit]; exact List.mem_append_left _ hb)
            · rcases List.mem_cons.1 hb with rfl | hb
              · exact h2
              · exact hO b (by rw [hsplit]; exact List.mem_append_right _ (List.mem_cons_of_mem _ hb))
        · rw [if_neg (by omega)]
          right
          refine ⟨h1, x, ?_⟩
          rw [own x (cmpV_self x), hg]
          show (joinR r x).2 ≠ 0
          omega
    · rw [if_neg hkr]
      left
      have hrx : cmpV x r < 0 := by have := cmpV_neg r x; omega
      rw [List.filter_cons, if_neg (by simp [keyV]; omega), hRk x (cmpV_self x)] at hof
      have hnone : K.filter (keyV x) = [] := by
        rcases hF : K.filter (keyV x) with _ | ⟨a, M⟩
        · rfl
        · rw [hF] at hof; simp [grp] at hof
      refine ⟨rfl, ⟨List.pairwise_append.2 ⟨s1, List.pairwise_cons.2 ⟨fun b hb => ?_, List.pairwise_cons.2 s2⟩, fun b hb c hc => ?_⟩, fun k => ?_, fun k => ?_⟩, fun b hb => ?_⟩
      · rcases List.mem_cons.1 hb with rfl | hb
        · exact hrx
        · exact hRx b hb
      · rcases List.mem_cons.1 hc with rfl | hc
        · exact hT b hb
        · exact s3 b hb c hc
      · by_cases hk : cmpV k x = 0
        · rw [own k hk, hnone, keyV_left hk, List.filter_append, hTx, List.filter_cons, if_pos (keyV_self x), List.filter_cons, if_neg (by simp [keyV]; omega), hRk x (cmpV_self x)]; rfl
        · rw [other k hk, ← h.same k]
          conv => rhs; rw [hsplit]
          rw [List.filter_append, List.filter_append, List.filter_cons (x := x), if_neg (by simp [keyV, hk])]
      · by_cases hk : cmpV k x = 0
        · rw [own k hk, hnone]; rfl
        · rw [other k hk]; exact h.ok k
      · rcases List.mem_append.1 hb with hb | hb
        · exact hO b (by rw [hsplit]; exact List.mem_append_left _ hb)
        · rcases List.mem_cons.1 hb with rfl | hb
          · exact hx
          · exact hO b (by rw [hsplit]; exact List.mem_append_right _ hb)
theorem grp_more {q : Nat} (L M : List RV) (h : (grp L).2 ≠ 0) : (grp (L ++ M)).2 ≠ 0 := by
  induction M generalizing L with
  | nil => rw [List.append_nil]; exact h
  | cons b M ih =>
    rw [show L ++ b :: M = (L ++ [b]) ++ M by simp]
    apply ih
    rw [grp_snoc]
    cases L with
    | nil => exact absurd rfl h
    | cons a L =>
      have h' : (joinAll a L).2 ≠ 0 := h
      simp only [if_neg h']
      exact h
theorem refF_all {q : Nat} : ∀ (L K O : List RV), FoldOf K O → (∀ a ∈ K, OkR q a) → (∀ a ∈ O, OkR q a) → (∀ a ∈ L, OkR q a) →
    ((refF O L).2 = 0 ∧ FoldOf (K ++ L) (refF O L).1) ∨ ((refF O L).2 = 121 ∧ (refF O L).1 = [] ∧ ∃ k, (grp ((K ++ L).filter (keyV k))).2 ≠ 0) := by
  intro L
  induction L with
  | nil => intro K O h _ _ _; left; exact ⟨rfl, by rw [List.append_nil]; exact h⟩
  | cons x L ih =>
    intro K O h hK hO hL
    have e : K ++ x :: L = (K ++ [x]) ++ L := by simp
    rw [refF]
    rcases insK_step h hK hO (hL x (List.mem_cons_self ..)) with ⟨h1, h2, h3⟩ | ⟨h1, k, h2⟩
    · rw [if_pos h1, e]
      refine ih _ _ h2 (fun a ha => ?_) h3 (fun a ha => hL a (List.mem_cons_of_mem _ ha))
      rcases List.mem_append.1 ha with ha | ha
      · exact hK a ha
      · rw [List.mem_singleton.1 ha]; exact hL x (List.mem_cons_self ..)
    · rw [if_neg (by omega)]
      right
      refine ⟨h1, rfl, k, ?_⟩
      rw [e, List.filter_append]
      exact grp_more (q := q) _ _ h2
theorem foldL_all {q : Nat} : ∀ (n : Nat) (K : List RV), K.length ≤ n → (K.Pairwise fun a b => cmpV a b ≤ 0) → (∀ a ∈ K, OkR q a) →
    ((foldL K).2 = 0 ∧ FoldOf K (foldL K).1 ∧ ∀ y ∈ (foldL K).1, ∃ a ∈ K, cmpV y a = 0) ∨ ((foldL K).2 = 121 ∧ (foldL K).1 = [] ∧ ∃ k, (grp (K.filter (keyV k))).2 ≠ 0) := by
  intro n
  induction n with
  | zero =>
    intro K hn _ _
    obtain rfl : K = [] := List.eq_nil_of_length_eq_zero (by omega)
    left; exact ⟨rfl, FoldOf.nil, fun y h => by cases h⟩
  | succ n ih =>
    intro K hn hs hK
    cases K with
    | nil => left; exact ⟨rfl, FoldOf.nil, fun y h => by cases h⟩
    | cons a L =>
      have hsplit : L = L.takeWhile (keyV a) ++ L.dropWhile (keyV a) := List.takeWhile_append_dropWhile.symm
      have hT : ∀ b ∈ L.takeWhile (keyV a), cmpV a b = 0 := fun b hb => by simpa [keyV] using takeWhile_all _ _ b hb
      have hL := List.pairwise_cons.1 hs
      have hsl := hL.2
      rw [hsplit, List.pairwise_append] at hsl
      have hD : ∀ b ∈ L.dropWhile (keyV a), cmpV a b < 0 := by
        rcases hd : L.dropWhile (keyV a) with _ | ⟨r, R⟩
        · intro b hb; cases hb
        · have h1 := dropWhile_head _ _ hd
          have h2 : cmpV a r ≤ 0 := hL.1 r (by rw [hsplit, hd]; simp)
          have h3 : cmpV a r < 0 := by
            have : cmpV a r ≠ 0 := by simpa [keyV] using h1
            omega
          have hp := hsl.2.1
          rw [hd, List.pairwise_cons] at hp
          intro b hb
          rcases List.mem_cons.1 hb with rfl | hb
          · exact h3
          · have h4 := hp.1 b hb
            rcases Int.lt_or_eq_of_le h4 with h5 | h5
            · exact cmpV_tr h3 h5
            · rw [← cmpV_right h5]; exact h3
      have hfa : ∀ k, cmpV k a = 0 → (a :: L).filter (keyV k) = a :: L.takeWhile (keyV a) := fun k hk => by
        rw [keyV_left hk, List.filter_cons, if_pos (keyV_self a)]
        congr 1
        conv => lhs; rw [hsplit]
        rw [List.filter_append, filter_none (L := L.dropWhile (keyV a)) (fun b hb => by have := hD b hb; omega), List.append_nil, List.filter_eq_self]
        intro b hb; simp [keyV, hT b hb]
      have hfo : ∀ k, cmpV k a ≠ 0 → (a :: L).filter (keyV k) = (L.dropWhile (keyV a)).filter (keyV k) := fun k hk => by
        rw [List.filter_cons, if_neg (by simp [keyV, hk])]
        conv => lhs; rw [hsplit]
        rw [List.filter_append, filter_none (L := L.takeWhile (keyV a)) (fun b hb => by rw [← cmpV_right (hT b hb)]; exact hk), List.nil_append]
      have hKL : ∀ b ∈ L, OkR q b := fun b hb => hK b (List.mem_cons_of_mem _ hb)
      rw [foldL_cons]
      rcases joinAll_ok (q := q) (L.takeWhile (keyV a)) a (hK a (List.mem_cons_self ..)) (fun b hb => ⟨hKL b (by rw [hsplit]; exact List.mem_append_left _ hb), hT b hb⟩) with ⟨j1, j2, j3⟩ | j1
      · rw [if_pos j1]
        have hlen := dropWhile_len (keyV a) L
        rcases ih (L.dropWhile (keyV a)) (by simp at hn; omega) hsl.2.1 (fun b hb => hKL b (by rw [hsplit]; exact List.mem_append_right _ hb)) with ⟨d1, d2, d3⟩ | ⟨d1, d2, k, d3⟩
        · rw [if_pos d1]
          left
          have hY : ∀ y ∈ (foldL (L.dropWhile (keyV a))).1, cmpV a y < 0 := fun y hy => by
            obtain ⟨b, hb, hyb⟩ := d3 y hy
            rw [cmpV_right hyb]; exact hD b hb
          refine ⟨rfl, ⟨List.pairwise_cons.2 ⟨fun y hy => by rw [cmpV_left j3]; exact hY y hy, d2.strict⟩, fun k => ?_, fun k => ?_⟩, fun y hy => ?_⟩
          · by_cases hk : cmpV k a = 0
            · rw [hfa k hk, keyV_left hk, List.filter_cons, if_pos (by rw [keyV_sym]; simp [keyV, j3]), filter_none (fun y hy => by have := hY y hy; omega)]; rfl
            · rw [hfo k hk, ← d2.same k, List.filter_cons, if_neg (by simp only [keyV, decide_eq_true_eq]; rw [cmpV_right j3]; exact hk)]
          · by_cases hk : cmpV k a = 0
            · rw [hfa k hk]; exact j1
            · rw [hfo k hk]; exact d2.ok k
          · rcases List.mem_cons.1 hy with rfl | hy
            · exact ⟨a, List.mem_cons_self .., j3⟩
            · obtain ⟨b, hb, hyb⟩ := d3 y hy
              exact ⟨b, List.mem_cons_of_mem _ (by rw [hsplit]; exact List.mem_append_right _ hb), hyb⟩
        · rw [if_neg (by omega)]
          right
          refine ⟨d1, rfl, k, ?_⟩
          have hk : cmpV k a ≠ 0 := fun hk => by
            rw [filter_none (L := L.dropWhile (keyV a)) (fun b hb => by rw [cmpV_left hk]; have := hD b hb; omega)] at d3
            exact d3 rfl
          rw [hfo k hk]; exact d3
      · rw [if_neg (by omega)]
        right
        refine ⟨j1, rfl, a, ?_⟩
        rw [hfa a (cmpV_self a)]
        show (joinAll a _).2 ≠ 0
        omega
theorem fold_one {q : Nat} {K K' : List RV} (h : SortsTo K K') (hK : ∀ a ∈ K, OkR q a) : foldL K' = refF [] K := by
  have hg : ∀ k, K'.filter (keyV k) = K.filter (keyV k) := h.same
  have h1 := foldL_all (q := q) K'.length K' (Nat.le_refl _) h.sorted (fun a ha => hK a (h.mem ha))
  have h2 := refF_all (q := q) K [] [] FoldOf.nil (fun a ha => by cases ha) (fun a ha => by cases ha) hK
  rw [List.nil_append] at h2
  have conv1 : ∀ {O}, FoldOf K' O → FoldOf K O := fun f => ⟨f.strict, fun k => by rw [← hg k]; exact f.same k, fun k => by rw [← hg k]; exact f.ok k⟩
  rcases h1 with ⟨a1, a2, _⟩ | ⟨a1, a2, k, a3⟩ <;> rcases h2 with ⟨b1, b2⟩ | ⟨b1, b2, j, b3⟩
  · exact Prod.ext ((conv1 a2).uniq b2) (a1.trans b1.symm)
  · exact absurd ((conv1 a2).ok j) b3
  · rw [hg k] at a3; exact absurd (b2.ok k) a3
  · exact Prod.ext (a2.trans b2.symm) (a1.trans b1.symm)
end Go.Proofs.YtmmeekmiildliaaGreatDoor
