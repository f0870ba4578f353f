/- all (17): the maker of the iterator. What comes out of the lists, as a stable sort of all their rows. Rows that come in order, joined one by one with the last. -/
import Derived.Test.YtbccjkjibffbkaaHP
import Derived.Test.YtbccjkjibffbkaaSF
namespace Go.Proofs.Ytbccjkjibffbkaa
open Go.RowKit Go.Shelf
set_option linter.unusedSimpArgs false
set_option linter.unusedVariables false
theorem all_maker (A : Option Addr) (n c : Nat) (w : World) : Calls Try.prog 17 #[.slice A n c] w fun e w' =>
    e = .returned (.func (.func 32) #[] #[.pointer (some ⟨w.heap.size, 0, none⟩)]) ∧ w' = w.alloc (.cells #[.slice A n c] 25) := by
  go_enter Try.func17, Try.ntmps17
  go_wp2
  go_ret
  exact ⟨rfl, rfl⟩
end Go.Proofs.Ytbccjkjibffbkaa
namespace Go.Proofs.Ytbccjkjibffbkaa
open Go.RowKit Go.Shelf
set_option linter.unusedSimpArgs false
set_option linter.unusedVariables false
theorem sorts_of {K M : List RZ} (h : SortedF sF M) (g : SameF sF K M) : SortsTo (K.map Prod.snd) (M.map Prod.snd) := by
  refine ⟨List.pairwise_map.2 h, fun k => ?_⟩
  rw [List.filter_map, List.filter_map]
  exact congrArg (List.map Prod.snd) (g k)
/-- A list with no key twice is sorted. -/
theorem srt_sorted {Z : List RZ} (h : SrtD Z) : SortedF sF Z := by
  have key : ∀ d i (h1 : i + d + 1 < (Z.map Prod.snd).length), cmpV ((Z.map Prod.snd)[i]'(by omega)) (Z.map Prod.snd)[i + d + 1] < 0 := by
    intro d
    induction d with
    | zero => exact fun i h1 => h i h1
    | succ d ih => exact fun i h1 => cmpV_tr (ih i (by omega)) (h (i + d + 1) (by omega))
  refine List.pairwise_iff_getElem.2 fun i j hi hj hij => ?_
  have hj2 : j < (Z.map Prod.snd).length := by rw [List.length_map]; exact hj
  obtain ⟨d, rfl⟩ : ∃ d, j = i + d + 1 := ⟨j - i - 1, by omega⟩
  have := key d i hj2
  rw [List.getElem_map, List.getElem_map] at this
  show cmpV Z[i].2 Z[i + d + 1].2 ≤ 0
  omega
end Go.Proofs.Ytbccjkjibffbkaa
namespace Go.Proofs.Ytbccjkjibffbkaa
open Go.RowKit
set_option linter.unusedSimpArgs false
set_option linter.unusedVariables false
/-- A row behind the others, or joined with the last of them. -/
theorem insK_last {O : List RV} {a x : RV} (hs : Strict (O ++ [a])) (hx : cmpV a x ≤ 0) : insK (O ++ [a]) x =
    if cmpV a x = 0 then (if (joinR a x).2 = 0 then (O ++ [(joinR a x).1], 0) else ([], (joinR a x).2)) else (O ++ [a] ++ [x], 0) := by
  have hO : ∀ o ∈ O, below x o = true := fun o ho => by
    have h1 : cmpV o a < 0 := (List.pairwise_append.1 hs).2.2 o ho a (by simp)
    unfold below
    rw [decide_eq_true_iff]
    rcases Int.lt_or_eq_of_le hx with h | h
    · exact cmpV_tr h1 h
    · rw [← cmpV_right h]; exact h1
  by_cases h0 : cmpV a x = 0
  · have hb : below x a = false := by unfold below; rw [decide_eq_false_iff_not]; omega
    have e1 : (O ++ [a]).dropWhile (below x) = [a] := by
      rw [List.dropWhile_append_of_pos hO, List.dropWhile_cons, hb]; simp
    have e2 : (O ++ [a]).takeWhile (below x) = O := by
      rw [List.takeWhile_append_of_pos hO, List.takeWhile_cons, hb]; simp
    unfold insK
    rw [e1, e2]
    simp only [if_pos h0]
  · have hb : below x a = true := by unfold below; rw [decide_eq_true_iff]; omega
    have hA : ∀ o ∈ O ++ [a], below x o = true := fun o ho => by
      rcases List.mem_append.1 ho with h | h
      · exact hO o h
      · rw [List.mem_singleton.1 h]; exact hb
    have e1 : (O ++ [a]).dropWhile (below x) = [] := by
      have := List.dropWhile_append_of_pos (l₂ := []) hA
      rwa [List.append_nil] at this
    have e2 : (O ++ [a]).takeWhile (below x) = O ++ [a] := by
      have := List.takeWhile_append_of_pos (l₂ := []) hA
      rwa [List.append_nil, List.takeWhile_nil, List.append_nil] at this
    unfold insK
    rw [e1, e2]
    simp only [if_neg h0]
theorem insK_nil (x : RV) : insK [] x = ([x], 0) := rfl
theorem insK_err (O : List RV) (x : RV) (h : (insK O x).2 ≠ 0) : (insK O x).1 = [] := by
  unfold insK at h ⊢
  cases hd : O.dropWhile (below x) with
  | nil => rw [hd] at h; exact absurd rfl h
  | cons r R =>
    rw [hd] at h
    simp only at h ⊢
    by_cases h1 : cmpV r x = 0
    · rw [if_pos h1] at h ⊢
      by_cases h2 : (joinR r x).2 = 0
      · rw [if_pos h2] at h; exact absurd rfl h
      · rw [if_neg h2]
    · rw [if_neg h1] at h; exact absurd rfl h
theorem refF_snoc : ∀ (L O : List RV) (x : RV), refF O (L ++ [x]) = if (refF O L).2 = 0 then insK (refF O L).1 x else ([], (refF O L).2)
  | [], O, x => by
    show (if (insK O x).2 = 0 then refF (insK O x).1 [] else ([], (insK O x).2)) = _
    have e0 : refF O [] = (O, 0) := rfl
    rw [e0, if_pos rfl]
    by_cases h : (insK O x).2 = 0
    · rw [if_pos h]; show ((insK O x).1, 0) = _; rw [← h]
    · rw [if_neg h]
      have : (insK O x).1 = [] := insK_err O x h
      rw [← this]
  | y :: L, O, x => by
    show (if (insK O y).2 = 0 then refF (insK O y).1 (L ++ [x]) else ([], (insK O y).2)) = _
    have e0 : refF O (y :: L) = if (insK O y).2 = 0 then refF (insK O y).1 L else ([], (insK O y).2) := rfl
    rw [e0]
    by_cases h : (insK O y).2 = 0
    · rw [if_pos h, if_pos h]; exact refF_snoc L _ x
    · rw [if_neg h, if_neg h]; simp only [if_neg h]
theorem refF_bad (M L : List RV) (O : List RV) (x : Int) (hx : x ≠ 0) (h : refF O L = ([], x)) : refF O (L ++ M) = ([], x) := by
  induction M generalizing L with
  | nil => rw [List.append_nil]; exact h
  | cons b M ih =>
    rw [show L ++ b :: M = (L ++ [b]) ++ M by simp]
    apply ih
    rw [refF_snoc, h]
    simp only [if_neg hx]
/-- What stands joined of the rows that came. -/
structure JnSt (q : Nat) (K O : List RV) : Prop where
  is : refF [] K = (O, 0)
  ok : ∀ a ∈ K, OkR q a
  of : FoldOf K O
theorem JnSt.start (q : Nat) : JnSt q [] [] := ⟨rfl, fun _ h => absurd h List.not_mem_nil, FoldOf.nil⟩
theorem FoldOf.mem {K O : List RV} (h : FoldOf K O) {o : RV} (ho : o ∈ O) : ∃ a ∈ K, cmpV o a = 0 := by
  have h1 : o ∈ O.filter (keyV o) := List.mem_filter.2 ⟨ho, keyV_self o⟩
  rw [h.same o] at h1
  rcases hf : K.filter (keyV o) with _ | ⟨a, T⟩
  · rw [hf] at h1; exact absurd h1 List.not_mem_nil
  · have h2 : a ∈ K.filter (keyV o) := by rw [hf]; exact List.mem_cons_self ..
    have h3 := List.mem_filter.1 h2
    exact ⟨a, h3.1, by simpa [keyV] using h3.2⟩
theorem refF_of {q : Nat} {K O : List RV} (hK : ∀ a ∈ K, OkR q a) (h : refF [] K = (O, 0)) : FoldOf K O := by
  rcases refF_all (q := q) K [] [] FoldOf.nil (fun a ha => absurd ha List.not_mem_nil) (fun a ha => absurd ha List.not_mem_nil) hK with ⟨_, h2⟩ | ⟨h1, _⟩
  · rw [h] at h2; exact h2
  · rw [h] at h1; cases h1
theorem JnSt.more {q : Nat} {K O P : List RV} {x : RV} (h : JnSt q K O) (hx : OkR q x) (he : insK O x = (P, 0)) : JnSt q (K ++ [x]) P := by
  have h1 : refF [] (K ++ [x]) = (P, 0) := by rw [refF_snoc, h.is]; simp only [if_pos]; exact he
  have h2 : ∀ a ∈ K ++ [x], OkR q a := fun a ha => by
    rcases List.mem_append.1 ha with ha | ha
    · exact h.ok a ha
    · rw [List.mem_singleton.1 ha]; exact hx
  exact ⟨h1, h2, refF_of h2 h1⟩
theorem JnSt.bad {q : Nat} {K O : List RV} {x : RV} {e : Int} (h : JnSt q K O) (he : insK O x = ([], e)) : refF [] (K ++ [x]) = ([], e) := by
  rw [refF_snoc, h.is]; simp only [if_pos]; exact he
theorem JnSt.le {q : Nat} {K O : List RV} {x : RV} (h : JnSt q K O) (hx : ∀ a ∈ K, cmpV a x ≤ 0) {o : RV} (ho : o ∈ O) : cmpV o x ≤ 0 := by
  obtain ⟨a, ha, he⟩ := h.of.mem ho
  rw [cmpV_left he]; exact hx a ha
/-- The first row, or one behind all of them. -/
theorem JnSt.put {q : Nat} {K O : List RV} {x : RV} (h : JnSt q K O) (hK : ∀ a ∈ K, cmpV a x ≤ 0) (hx : OkR q x) (hn : ∀ a P, O = P ++ [a] → cmpV a x ≠ 0) : JnSt q (K ++ [x]) (O ++ [x]) := by
  refine h.more hx ?_
  rcases List.eq_nil_or_concat O with rfl | ⟨P, a, rfl⟩
  · exact insK_nil x
  · rw [List.concat_eq_append] at h hn ⊢
    rw [insK_last h.of.strict (h.le hK (by simp)), if_neg (hn a P rfl)]
/-- One of the last one's key. -/
theorem JnSt.join {q : Nat} {K P : List RV} {a x r : RV} (h : JnSt q K (P ++ [a])) (hK : ∀ a ∈ K, cmpV a x ≤ 0) (hx : OkR q x) (hc : cmpV a x = 0) (hj : joinR a x = (r, 0)) : JnSt q (K ++ [x]) (P ++ [r]) := by
  refine h.more hx ?_
  rw [insK_last h.of.strict (h.le hK (by simp)), if_pos hc, hj]; simp
theorem JnSt.fails {q : Nat} {K P : List RV} {a x r : RV} {e : Int} (h : JnSt q K (P ++ [a])) (hK : ∀ a ∈ K, cmpV a x ≤ 0) (hc : cmpV a x = 0) (he : e ≠ 0) (hj : joinR a x = (r, e)) : refF [] (K ++ [x]) = ([], e) := by
  refine h.bad ?_
  rw [insK_last h.of.strict (h.le hK (by simp)), if_pos hc, hj]; simp [he]
/-- The joined rows are right rows. -/
theorem refF_okR {q : Nat} : ∀ (L O : List RV), (∀ a ∈ O, OkR q a) → (∀ a ∈ L, OkR q a) → ∀ P, refF O L = (P, 0) → ∀ a ∈ P, OkR q a := by
  intro L
  induction L with
  | nil => intro O hO _ P h a ha; cases h; exact hO a ha
  | cons x L ih =>
    intro O hO hL P h
    have e0 : refF O (x :: L) = if (insK O x).2 = 0 then refF (insK O x).1 L else ([], (insK O x).2) := rfl
    rw [e0] at h
    by_cases hi : (insK O x).2 = 0
    · rw [if_pos hi] at h
      refine ih _ (fun a ha => ?_) (fun a ha => hL a (List.mem_cons_of_mem _ ha)) P h
      have hxx := hL x (List.mem_cons_self ..)
      have hsp : O = O.takeWhile (below x) ++ O.dropWhile (below x) := List.takeWhile_append_dropWhile.symm
      have hT : ∀ a ∈ O.takeWhile (below x), OkR q a := fun a ha => hO a ((List.takeWhile_sublist _).subset ha)
      have hD : ∀ a ∈ O.dropWhile (below x), OkR q a := fun a ha => hO a ((List.dropWhile_sublist _).subset ha)
      unfold insK at ha hi
      split at ha <;> rename_i hd
      · rcases List.mem_append.1 ha with h | h
        · exact hT a h
        · rw [List.mem_singleton.1 h]; exact hxx
      · rename_i r R
        rw [hd] at hi hD
        simp only at hi
        by_cases h1 : cmpV r x = 0
        · rw [if_pos h1] at hi ha
          by_cases h2 : (joinR r x).2 = 0
          · rw [if_pos h2] at hi ha
            rcases List.mem_append.1 ha with h | h
            · exact hT a h
            · rcases List.mem_cons.1 h with rfl | h
              · rcases joinR_okR (hD r (List.mem_cons_self ..)) hxx h1 with h3 | h3
                · exact h3.2.1
                · omega
              · exact hD a (List.mem_cons_of_mem _ h)
          · rw [if_neg h2] at hi; exact absurd hi h2
        · rw [if_neg h1] at ha
          rcases List.mem_append.1 ha with h | h
          · exact hT a h
          · rcases List.mem_cons.1 h with rfl | h
            · exact hxx
            · exact hD a h
    · rw [if_neg hi] at h
      exact absurd (congrArg Prod.snd h) hi
theorem JnSt.okO {q : Nat} {K O : List RV} (h : JnSt q K O) : ∀ a ∈ O, OkR q a := refF_okR K [] (fun _ h => absurd h List.not_mem_nil) h.ok O h.is
end Go.Proofs.Ytbccjkjibffbkaa
