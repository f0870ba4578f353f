/- Tokens of texts put together; each token of a text is right. -/
import Derived.Test.YtcpbjcemlkohkaaDoorDD
namespace Go.Proofs.YtcpbjcemlkohkaaDoor
set_option linter.unusedSimpArgs false
set_option linter.unusedVariables false
theorem blank_cases {c : UInt8} (h : blank c = true) : c = 32 ∨ c = 9 ∨ c = 10 := by
  simp [blank] at h
  rcases h with (h | h) | h <;> simp [h]
theorem blank_notW {c : UInt8} (h : blank c = true) : isW c = false := by
  rcases blank_cases h with rfl | rfl | rfl <;> decide
theorem blank_notF {c : UInt8} (h : blank c = true) : isF c = false := by
  rcases blank_cases h with rfl | rfl | rfl <;> decide
theorem blank_none {c : UInt8} {r : List UInt8} (h : blank c = true) : firstT (c :: r) = none := by
  rcases blank_cases h with rfl | rfl | rfl <;> rfl
theorem cnt_app {p : UInt8 → Bool} : ∀ (xs rest : List UInt8), (∀ x ∈ xs, p x = true) → (∀ c, rest.head? = some c → p c = false) → cnt p (xs ++ rest) = xs.length := by
  intro xs
  induction xs with
  | nil =>
    intro rest _ h
    cases rest with
    | nil => rfl
    | cons c r => exact cnt_nil (h c rfl)
  | cons x xs ih =>
    intro rest h1 h2
    have := ih rest (fun y hy => h1 y (List.mem_cons_of_mem _ hy)) h2
    unfold cnt at *
    rw [List.cons_append, List.takeWhile_cons, if_pos (h1 x (List.mem_cons_self ..)), List.length_cons, this, List.length_cons]
theorem take_len {p : UInt8 → Bool} (r : List UInt8) : (r.take (cnt p r)).length = cnt p r := by
  rw [List.length_take, Nat.min_eq_left (cnt_le p r)]
def NextOk (l : List UInt8) (n : Nat) (rest : List UInt8) : Prop := ∀ c, rest.head? = some c → blank c = true ∨ (l.drop n).head? = some c
theorem next_not {p : UInt8 → Bool} (hp : ∀ c, blank c = true → p c = false) {c : UInt8} {r rest : List UInt8} (h : NextOk (c :: r) (1 + cnt p r) rest) : ∀ x, rest.head? = some x → p x = false := by
  intro x hx
  rcases h x hx with h | h
  · exact hp x h
  · rw [Nat.add_comm, List.drop_succ_cons, List.head?_drop] at h
    exact at_cnt p r h
theorem first_local {l rest : List UInt8} {t : Tok} {n : Nat} (h : firstT l = some (t, n)) (hr : NextOk l n rest) : firstT (l.take n ++ rest) = some (t, n) := by
  cases l with
  | nil => cases h
  | cons c r =>
    unfold firstT at h
    simp only [] at h
    by_cases h1 : isL c = true
    · rw [if_pos h1] at h
      cases h
      have hc := cnt_app (p := isW) (r.take (cnt isW r)) rest (fun x hx => mem_cnt isW r hx) (next_not (fun _ => blank_notW) hr)
      rw [take_len] at hc
      rw [Nat.add_comm 1, List.take_succ_cons, List.cons_append]
      unfold firstT
      simp only []
      rw [if_pos h1, hc, Nat.add_comm 1, List.take_succ_cons, List.take_left' (take_len r)]
    · rw [if_neg h1] at h
      by_cases h2 : c = 45 ∨ isF c = true
      · rw [if_pos h2, Option.map_eq_some_iff] at h
        obtain ⟨u, hu, e⟩ := h
        cases e
        have hc := cnt_app (p := isF) (r.take (cnt isF r)) rest (fun x hx => mem_cnt isF r hx) (next_not (fun _ => blank_notF) hr)
        rw [take_len] at hc
        rw [Nat.add_comm 1, List.take_succ_cons, List.cons_append]
        unfold firstT
        simp only []
        rw [if_neg h1, if_pos h2, hc, Nat.add_comm 1, List.take_succ_cons, List.take_left' (take_len r)]
        rw [Nat.add_comm 1, List.take_succ_cons] at hu
        rw [hu]; rfl
      · rw [if_neg h2] at h
        by_cases h3 : c = 34
        · rw [if_pos h3] at h
          by_cases h4 : cnt notQ r = r.length
          · rw [if_pos h4] at h; cases h
          · rw [if_neg h4] at h
            by_cases h5 : valB (r.take (cnt notQ r)) = true
            · rw [if_pos h5] at h
              cases h
              have hlt : cnt notQ r < r.length := by have := cnt_le notQ r; omega
              have e4 : r[cnt notQ r] = 34 := by
                have := at_cnt notQ r (List.getElem?_eq_getElem hlt)
                simpa [notQ] using this
              have e2 : (c :: r).take (2 + cnt notQ r) = c :: (r.take (cnt notQ r) ++ [34]) := by
                rw [show 2 + cnt notQ r = (cnt notQ r + 1) + 1 by omega, List.take_succ_cons, List.take_succ_eq_append_getElem hlt, e4]
              have hc := cnt_app (p := notQ) (r.take (cnt notQ r)) ([34] ++ rest) (fun x hx => mem_cnt notQ r hx) (fun x hx => by
                simp at hx; subst hx; decide)
              rw [take_len] at hc
              rw [e2, List.cons_append, List.append_assoc]
              unfold firstT
              simp only []
              rw [if_neg h1, if_neg h2, if_pos h3, hc, if_neg (by rw [List.length_append, take_len]; simp), List.take_left' (take_len r), if_pos h5]
            · rw [if_neg h5] at h; cases h
        · rw [if_neg h3] at h
          by_cases h6 : sgn c = true
          · rw [if_pos h6] at h
            cases h
            unfold firstT
            simp only [List.take_succ_cons, List.take_zero, List.cons_append, List.nil_append]
            rw [if_neg h1, if_neg h2, if_neg h3, if_pos h6]
          · rw [if_neg h6] at h; cases h
theorem numR_text {l : List UInt8} {t : Tok} (h : numR l = some t) : t.1 = 1 ∧ t.2.1 = bsOf l := by
  unfold numR at h
  split at h
  · cases h
  · cases h; exact ⟨rfl, rfl⟩
theorem first_text {l : List UInt8} {t : Tok} {n : Nat} (h : firstT l = some (t, n)) : textT t = l.take n := by
  cases l with
  | nil => cases h
  | cons c r =>
    unfold firstT at h
    simp only [] at h
    split at h
    · cases h; unfold textT; rw [if_neg (by show ¬ ((0 : Int) = 2); decide)]; rfl
    split at h
    · rw [Option.map_eq_some_iff] at h
      obtain ⟨u, hu, e⟩ := h
      cases e
      obtain ⟨e1, e2⟩ := numR_text hu
      unfold textT
      rw [e1, if_neg (by decide), e2]; rfl
    split at h
    · rename_i h3
      split at h
      · cases h
      · rename_i h4
        split at h
        · cases h
          have hlt : cnt notQ r < r.length := by have := cnt_le notQ r; omega
          have e4 : r[cnt notQ r] = 34 := by
            have := at_cnt notQ r (List.getElem?_eq_getElem hlt)
            simpa [notQ] using this
          unfold textT
          rw [if_pos rfl, show 2 + cnt notQ r = (cnt notQ r + 1) + 1 by omega, List.take_succ_cons, List.take_succ_eq_append_getElem hlt, e4, h3]; rfl
        · cases h
    split at h
    · cases h; unfold textT; rw [if_neg (by show ¬ ((3 : Int) = 2); decide)]; rfl
    · cases h
theorem first_blank {c : UInt8} {r : List UInt8} {t : Tok} {n : Nat} (h : firstT (c :: r) = some (t, n)) : blank c = false := by
  cases hb : blank c with
  | false => rfl
  | true => rw [blank_none hb] at h; cases h
theorem dw_head : ∀ (l : List UInt8) {c : UInt8} {r : List UInt8}, l.dropWhile blank = c :: r → blank c = false := by
  intro l
  induction l with
  | nil => intro c r h; cases h
  | cons d l ih =>
    intro c r h
    by_cases hd : blank d = true
    · rw [List.dropWhile_cons, if_pos hd] at h; exact ih h
    · rw [List.dropWhile_cons, if_neg hd] at h; cases h; simpa using hd
theorem dw_app (a b : List UInt8) : (a ++ b).dropWhile blank = if a.dropWhile blank = [] then b.dropWhile blank else a.dropWhile blank ++ b := by
  induction a with
  | nil => rfl
  | cons c r ih =>
    by_cases h : blank c = true
    · rw [List.cons_append, List.dropWhile_cons, if_pos h, ih, List.dropWhile_cons, if_pos h]
    · rw [List.cons_append, List.dropWhile_cons, if_neg h, List.dropWhile_cons, if_neg h, if_neg (by simp)]; rfl
theorem toks_join {s : UInt8} (hs : blank s = true) (b : List UInt8) (M : List Tok) (hb : toks b = some M) : ∀ (k : Nat) (a : List UInt8) (L : List Tok), a.length ≤ k → toks a = some L → toks (a ++ s :: b) = some (L ++ M) := by
  intro k
  induction k with
  | zero =>
    intro a L hk h
    have : a = [] := List.eq_nil_of_length_eq_zero (by omega)
    subst this
    rw [toks_nil] at h; cases h
    rw [List.nil_append, toks_blank hs, hb]; rfl
  | succ k ih =>
    intro a L hk h
    cases ha : a.dropWhile blank with
    | nil =>
      rw [toks_end ha] at h; cases h
      rw [← toks_dw, dw_app, if_pos ha, toks_dw, toks_blank hs, hb]; rfl
    | cons c r =>
      have hne : a.dropWhile blank ≠ [] := by rw [ha]; simp
      rw [toks_step hne, ha] at h
      have hlen := dw_len a
      rw [ha] at hlen
      cases hf : firstT (c :: r) with
      | none => rw [hf] at h; cases h
      | some p =>
        obtain ⟨t, n⟩ := p
        rw [hf] at h
        simp only [Option.map_eq_some_iff] at h
        obtain ⟨L', hL', rfl⟩ := h
        have hp := first_pos hf
        have hl := first_local (rest := (c :: r).drop n ++ s :: b) hf (fun x hx => by
          rw [List.head?_append] at hx
          cases hd : ((c :: r).drop n).head? with
          | none => rw [hd] at hx; simp at hx; subst hx; exact .inl hs
          | some y => rw [hd] at hx; simp at hx; subst hx; exact .inr rfl)
        rw [← List.append_assoc, List.take_append_drop] at hl
        have hd : (c :: r ++ s :: b).drop n = (c :: r).drop n ++ s :: b := by
          rw [List.drop_append_of_le_length hp.2]
        rw [← toks_dw, dw_app, if_neg hne, ha]
        have hb2 := first_blank hf
        rw [List.cons_append] at hl hd ⊢
        rw [toks_some hb2 hl, hd, ih _ L' (by rw [List.length_drop]; omega) hL']
        rfl
theorem toks_sep {s : UInt8} (hs : blank s = true) {a b : List UInt8} {L M : List Tok} (ha : toks a = some L) (hb : toks b = some M) : toks (a ++ s :: b) = some (L ++ M) := toks_join hs b M hb _ a L (Nat.le_refl _) ha
theorem toks_one {l : List UInt8} {t : Tok} {n : Nat} (h : firstT l = some (t, n)) : toks (textT t) = some [t] := by
  rw [first_text h]
  have h1 := first_local (rest := []) h (fun c hc => by cases hc)
  rw [List.append_nil] at h1
  have hp := first_pos h
  cases hl : l.take n with
  | nil =>
    have := congrArg List.length hl
    rw [List.length_take, Nat.min_eq_left hp.2] at this
    have h0 : n = 0 := this
    omega
  | cons c r =>
    rw [hl] at h1
    have e : (c :: r).drop n = [] := by rw [← hl]; exact List.drop_eq_nil_of_le (by rw [List.length_take]; omega)
    rw [toks_some (first_blank h1) h1, e, toks_nil]; rfl
theorem toks_mem : ∀ (k : Nat) (l : List UInt8) (L : List Tok), l.length ≤ k → toks l = some L → ∀ t ∈ L, toks (textT t) = some [t] ∧ (textT t).length ≤ l.length := by
  intro k
  induction k with
  | zero =>
    intro l L hk h t ht
    have : l = [] := List.eq_nil_of_length_eq_zero (by omega)
    subst this
    rw [toks_nil] at h; cases h; cases ht
  | succ k ih =>
    intro l L hk h t ht
    cases ha : l.dropWhile blank with
    | nil => rw [toks_end ha] at h; cases h; cases ht
    | cons c r =>
      rw [toks_step (by rw [ha]; simp), ha] at h
      have hlen := dw_len l
      rw [ha] at hlen
      cases hf : firstT (c :: r) with
      | none => rw [hf] at h; cases h
      | some p =>
        obtain ⟨u, n⟩ := p
        rw [hf] at h
        simp only [Option.map_eq_some_iff] at h
        obtain ⟨L', hL', rfl⟩ := h
        have hp := first_pos hf
        have hdl : ((c :: r).drop n).length ≤ l.length := by rw [List.length_drop]; omega
        rcases List.mem_cons.1 ht with rfl | ht
        · refine ⟨toks_one hf, ?_⟩
          rw [first_text hf, List.length_take]; omega
        · have := ih _ L' (by rw [List.length_drop]; omega) hL' t ht
          exact ⟨this.1, by omega⟩
theorem textL_one (t : Tok) : textL [t] = textT t := Lib.join_one _ _
theorem toks_textL (L : List Tok) (h : ∀ t ∈ L, toks (textT t) = some [t]) : ∀ k, k ≤ L.length → toks (textL (L.take k)) = some (L.take k) := by
  intro k
  induction k with
  | zero => intro _; rw [List.take_zero]; rfl
  | succ k ih =>
    intro hk
    have h1 := ih (by omega)
    have h2 := h L[k] (List.getElem_mem _)
    rw [take_snoc L k (by omega), textL_snoc]
    split
    · rename_i e; rw [e, h2]; rfl
    · rw [List.append_assoc]
      exact toks_sep (s := 32) rfl h1 h2
theorem toks_textL' (L : List Tok) (h : ∀ t ∈ L, toks (textT t) = some [t]) : toks (textL L) = some L := by
  have := toks_textL L h L.length (Nat.le_refl _)
  rwa [List.take_length] at this
theorem right_toks {t : Tok} (h : rightT t) : toks (textT t) = some [t] := by
  unfold rightT lexT at h
  split at h
  · cases h
  · rw [dat_bs, textL_one] at h; exact h
theorem right_of {t : Tok} (h : toks (textT t) = some [t]) (hl : (textT t).length ≤ 400) : rightT t := by
  unfold rightT lexT
  rw [size_bs, textL_one, if_neg (by omega), dat_bs]; exact h
theorem size_text (t : Tok) : t.2.1.size ≤ (textT t).length := by
  unfold textT; split
  · simp [dat_len]; omega
  · rw [dat_len]; omega
end Go.Proofs.YtcpbjcemlkohkaaDoor
