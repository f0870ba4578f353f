/- All (4): the mathematics. -/
import Derived.Test.YtgaallkdfcckpaaSK
namespace Go.Proofs.Ytgaallkdfcckpaa
open Go.RowKit Go.Maps Go.Lib Go.Shelf
set_option linter.unusedSimpArgs false
set_option linter.unusedVariables false
/-- Stretches one behind the other, from a down to b. -/
def Chn : Int → List XZ → Int → Prop
  | a, [], b => a = b
  | a, x :: l, b => x.upto = a ∧ x.frm < a ∧ Chn x.frm l b
theorem chn_snoc : ∀ (l : List XZ) (a b : Int) (x : XZ), Chn a l b → x.upto = b → x.frm < x.upto → Chn a (l ++ [x]) x.frm
  | [], a, b, x, h, h1, h2 => ⟨by rw [h1]; exact h.symm, by have : a = b := h; omega, rfl⟩
  | y :: l, a, b, x, h, h1, h2 => ⟨h.1, h.2.1, chn_snoc l _ b x h.2.2 h1 h2⟩
theorem chn_le : ∀ (l : List XZ) (a b : Int), Chn a l b → b ≤ a
  | [], a, b, h => by have : a = b := h; omega
  | x :: l, a, b, h => by have := chn_le l _ b h.2.2; have := h.2.1; omega
theorem chn_lt {l : List XZ} {a b : Int} (h : Chn a l b) (hl : l ≠ []) : b < a := by
  match l, hl with
  | x :: l, _ => have := chn_le l _ b h.2.2; have := h.2.1; omega
/-- Where the chain stands before the k-th. -/
def atK (up : Int) (L : List XZ) (k : Nat) : Int := match k with | 0 => up | k + 1 => (L[k]?.map XZ.frm).getD 0
theorem chn_at : ∀ (l : List XZ) (a b : Int), Chn a l b → ∀ (k : Nat) (h : k < l.length), l[k].upto = atK a l k ∧ l[k].frm < atK a l k
  | x :: l, a, b, hc, 0, h => ⟨hc.1, hc.2.1⟩
  | x :: l, a, b, hc, k + 1, h => by
    have h1 : k < l.length := by simpa using h
    have ih := chn_at l x.frm b hc.2.2 k h1
    have e : atK a (x :: l) (k + 1) = atK x.frm l k := by
      cases k with
      | zero => rfl
      | succ k => simp [atK]
    rw [e]
    simpa using ih
theorem chn_end : ∀ (l : List XZ) (a b : Int), Chn a l b → b = atK a l l.length
  | [], a, b, h => h.symm
  | x :: l, a, b, h => by
    have ih := chn_end l x.frm b h.2.2
    rw [ih]
    cases l with
    | nil => rfl
    | cons y l => simp [atK]
theorem strS_chain (E : List Int) (fr up : Int) (hf : fr < up) (hE : ∀ (i : Nat) (h : i + 1 < E.length), E[i + 1] ≤ E[i]'(by omega)) : ∀ n, n ≤ E.length → Chn up (strS E fr up n) (if n = 0 then up else min up (max fr (E.getD (n - 1) 0))) := by
  intro n
  induction n with
  | zero => intro _; rfl
  | succ n ih =>
    intro hn
    have ih := ih (by omega)
    rw [strS_succ]
    have e1 : (strAt E fr up n).frm = max fr (E.getD n 0) := rfl
    have e2 : (strAt E fr up n).upto = if n = 0 then up else min up (E.getD (n - 1) 0) := rfl
    simp only [Nat.add_sub_cancel, if_neg (Nat.succ_ne_zero n)]
    by_cases h0 : n = 0
    · subst h0
      have e2 : (strAt E fr up 0).upto = up := rfl
      have ih : Chn up (strS E fr up 0) up := ih
      show Chn up _ (min up (max fr (E.getD 0 0)))
      by_cases h : (strAt E fr up 0).frm < (strAt E fr up 0).upto
      · rw [if_pos h]
        have h2 := chn_snoc _ _ _ (strAt E fr up 0) ih e2 h
        have e : min up (max fr (E.getD 0 0)) = (strAt E fr up 0).frm := by rw [e1, e2] at h; rw [e1]; omega
        rw [e]; exact h2
      · rw [if_neg h, List.append_nil]
        have e : min up (max fr (E.getD 0 0)) = up := by rw [e1, e2] at h; omega
        rw [e]; exact ih
    · have hE' := hE (n - 1) (by omega)
      have g1 : E.getD n 0 = E[n]'(by omega) := by rw [List.getD_eq_getElem?_getD, List.getElem?_eq_getElem (by omega)]; rfl
      have g2 : E.getD (n - 1) 0 = E[n - 1]'(by omega) := by rw [List.getD_eq_getElem?_getD, List.getElem?_eq_getElem (by omega)]; rfl
      have hle : E.getD n 0 ≤ E.getD (n - 1) 0 := by
        rw [g1, g2]
        have : n - 1 + 1 = n := by omega
        simpa [this] using hE'
      simp only [if_neg h0] at e2 ih
      by_cases h : (strAt E fr up n).frm < (strAt E fr up n).upto
      · rw [if_pos h]
        rw [e1, e2] at h
        have h2 := chn_snoc _ _ _ (strAt E fr up n) ih (by rw [e2]; omega) (by rw [e1, e2]; exact h)
        have e : min up (max fr (E.getD n 0)) = (strAt E fr up n).frm := by rw [e1]; omega
        rw [e]; exact h2
      · rw [if_neg h, List.append_nil]
        rw [e1, e2] at h
        have e : min up (max fr (E.getD n 0)) = min up (max fr (E.getD (n - 1) 0)) := by omega
        rw [e]; exact ih
theorem strS_tiers (E : List Int) (fr up : Int) (n : Nat) : ∀ (i j : Nat) (hj : j < (strS E fr up n).length) (hij : i < j), ((strS E fr up n)[i]'(by omega)).tier < (strS E fr up n)[j].tier := by
  have h : (strS E fr up n).Pairwise fun x y => x.tier < y.tier := by
    unfold strS
    refine List.Pairwise.filter _ (List.pairwise_map.2 ?_)
    refine List.Pairwise.imp ?_ List.pairwise_lt_range
    intro a b hab
    show (a : Int) < (b : Int)
    omega
  intro i j hj hij
  exact List.pairwise_iff_getElem.1 h i j (by omega) hj hij
theorem minX_mem (m : XZ) (L : List XZ) : minX m L = m ∨ minX m L ∈ L := by
  unfold minX
  induction L generalizing m with
  | nil => exact .inl rfl
  | cons y l ih =>
    rw [List.foldl_cons]
    split
    · rcases ih y with h | h
      · right; rw [h]; exact List.mem_cons_self ..
      · right; exact List.mem_cons_of_mem _ h
    · rcases ih m with h | h
      · left; exact h
      · right; exact List.mem_cons_of_mem _ h
theorem cand_same {F : List SZ} {jn : Nat} {x y : XZ} (h : y ∈ candS F jn x) : y.frm = x.frm ∧ y.upto = x.upto ∧ y.tier = x.tier := by
  unfold candS at h
  rcases List.mem_cons.1 h with rfl | h
  · exact ⟨rfl, rfl, rfl⟩
  · obtain ⟨i, -, hi⟩ := List.mem_filterMap.1 h
    unfold candAt at hi
    obtain ⟨n, -, rfl⟩ := Option.map_eq_some_iff.1 hi
    exact ⟨rfl, rfl, rfl⟩
theorem pick_mem {el : XZ → Bool} {F : List SZ} {jn : Nat} {x : XZ} (h : (candS F jn x).filter el ≠ []) : pickS el F jn x ∈ (candS F jn x).filter el := by
  unfold pickS
  cases hf : (candS F jn x).filter el with
  | nil => exact absurd hf h
  | cons y l =>
    simp only
    rcases minX_mem y l with e | e
    · rw [e]; exact List.mem_cons_self ..
    · exact List.mem_cons_of_mem _ e
theorem pick_ok {L : List ByteArray} {q : QZ} {p : PZ} {F : List SZ} {jn : Nat} {x : XZ} (h : elC L q p x = true) : (pickS (elC L q p) F jn x).frm = x.frm ∧ (pickS (elC L q p) F jn x).upto = x.upto ∧ (pickS (elC L q p) F jn x).tier = x.tier ∧ elC L q p (pickS (elC L q p) F jn x) = true := by
  have h1 := pick_mem (el := elC L q p) (F := F) (jn := jn) (x := x) (by rw [cand_filter h]; simp)
  obtain ⟨h2, h3⟩ := List.mem_filter.1 h1
  obtain ⟨a, b, c⟩ := cand_same h2
  exact ⟨a, b, c, h3⟩
theorem choose_cases {S : List XZ} {el : XZ → Bool} {pk : XZ → XZ} {P : List XZ} {t er : Int} (h : chooseS S el pk = (P, t, er)) : (er = 261 ∧ P = [] ∧ ∃ (k : Nat) (hk : k < S.length), el S[k] = false ∧ t = S[k].tier ∧ ∀ (j : Nat) (hj : j < k), el (S[j]'(by omega)) = true) ∨ (er = 0 ∧ P = S.map pk ∧ t = -1 ∧ ∀ x ∈ S, el x = true) := by
  by_cases hb : ∀ x ∈ S, el x = true
  · rw [choose_ok hb] at h
    simp only [Prod.mk.injEq] at h
    exact .inr ⟨h.2.2.symm, h.1.symm, h.2.1.symm, hb⟩
  · have hne : ∃ k, ∃ hk : k < S.length, el S[k] = false := by
      simp only [Classical.not_forall] at hb
      obtain ⟨x, hx, h1⟩ := hb
      obtain ⟨k, hk, rfl⟩ := List.getElem_of_mem hx
      exact ⟨k, hk, by simpa using h1⟩
    obtain ⟨k0, hk0, hb0⟩ := hne
    have key : ∀ n, (∃ k, ∃ hk : k < S.length, k < n ∧ el S[k] = false ∧ ∀ (j : Nat) (hj : j < k), el (S[j]'(by omega)) = true) ∨ ∀ (j : Nat) (hj : j < S.length), j < n → el S[j] = true := by
      intro n
      induction n with
      | zero => right; intro j _ h; omega
      | succ n ih =>
        rcases ih with ⟨k, hk, h1, h2, h3⟩ | ih
        · exact .inl ⟨k, hk, by omega, h2, h3⟩
        · by_cases hn : n < S.length
          · cases hv : el S[n] with
            | false => exact .inl ⟨n, hn, by omega, hv, fun j hj => ih j (by omega) hj⟩
            | true =>
              right
              intro j hj hjn
              rcases Nat.lt_or_ge j n with e | e
              · exact ih j hj e
              · obtain rfl : j = n := by omega
                exact hv
          · right; intro j hj hjn; exact ih j hj (by omega)
    rcases key S.length with ⟨k, hk, -, h2, h3⟩ | h3
    · rw [choose_bad hk (fun j hj hjk => h3 j hjk) h2] at h
      simp only [Prod.mk.injEq] at h
      exact .inl ⟨h.2.2.symm, h.1.symm, k, hk, h2, h.2.1.symm, h3⟩
    · rw [h3 k0 hk0 hk0] at hb0; cases hb0
end Go.Proofs.Ytgaallkdfcckpaa
