/- What a query's text is in pieces, as functions of its bytes. -/
import Derived.Test.YtcpbjcemlkohkaaDoorM
import Derived.Lib.SlTrimSet
import Derived.Lib.Join
import Derived.Lib.AtoiAll
namespace Go.Proofs.YtcpbjcemlkohkaaDoor
set_option linter.unusedSimpArgs false
set_option linter.unusedVariables false
def dat (s : ByteArray) : List UInt8 := s.data.toList
def bsOf (l : List UInt8) : ByteArray := ⟨l.toArray⟩
theorem dat_bs (l : List UInt8) : dat (bsOf l) = l := rfl
theorem bs_dat (s : ByteArray) : bsOf (dat s) = s := rfl
theorem dat_len (s : ByteArray) : (dat s).length = s.size := rfl
theorem dat_inj {a b : ByteArray} (h : dat a = dat b) : a = b := by rw [← bs_dat a, h, bs_dat]
def isL (c : UInt8) : Bool := decide (97 ≤ c.toNat) && decide (c.toNat ≤ 122)
def isF (c : UInt8) : Bool := decide (48 ≤ c.toNat) && decide (c.toNat ≤ 57)
def isW (c : UInt8) : Bool := isL c || isF c || c == 95
def blank (c : UInt8) : Bool := c == 32 || c == 9 || c == 10
def sgn (c : UInt8) : Bool := c == 44 || c == 40 || c == 41 || c == 61 || c == 60 || c == 62
def notQ (c : UInt8) : Bool := !(c == 34)
def valB (l : List UInt8) : Bool := decide (l.length ≤ 24) && l.all (fun c => !wrongV c.toNat)
def cnt (p : UInt8 → Bool) (l : List UInt8) : Nat := (l.takeWhile p).length
abbrev Tok := Int × ByteArray × Int
def numV (l : List UInt8) : Nat := l.foldl (fun a c => a * 10 + (c.toNat - 48)) 0
def figs (l : List UInt8) : List UInt8 := if l.head? = some 45 then l.drop 1 else l
def numR (l : List UInt8) : Option Tok :=
  if figs l = [] ∨ 4611686018427387904 < numV (figs l) ∨ (1 < (figs l).length ∧ (figs l).head? = some 48) then none
  else some (1, bsOf l, if l.head? = some 45 then -(numV (figs l) : Int) else (numV (figs l) : Int))
def firstT (l : List UInt8) : Option (Tok × Nat) := match l with
  | [] => none
  | c :: r =>
    if isL c = true then some ((0, bsOf ((c :: r).take (1 + cnt isW r)), 0), 1 + cnt isW r)
    else if c = 45 ∨ isF c = true then (numR ((c :: r).take (1 + cnt isF r))).map (fun t => (t, 1 + cnt isF r))
    else if c = 34 then
      if cnt notQ r = r.length then none
      else if valB (r.take (cnt notQ r)) = true then some ((2, bsOf (r.take (cnt notQ r)), 0), 2 + cnt notQ r) else none
    else if sgn c = true then some ((3, bsOf [c], 0), 1)
    else none
theorem cnt_le (p : UInt8 → Bool) (l : List UInt8) : cnt p l ≤ l.length := List.Sublist.length_le (List.takeWhile_sublist p)
theorem first_pos {l : List UInt8} {t : Tok} {n : Nat} (h : firstT l = some (t, n)) : 1 ≤ n ∧ n ≤ l.length := by
  unfold firstT at h
  split at h
  · cases h
  · rename_i c r
    have e1 := cnt_le isW r
    have e2 := cnt_le isF r
    have e3 := cnt_le notQ r
    rw [List.length_cons]
    split at h
    · cases h; omega
    split at h
    · rw [Option.map_eq_some_iff] at h
      obtain ⟨a, _, h⟩ := h
      cases h; omega
    split at h
    · split at h
      · cases h
      · split at h
        · cases h; omega
        · cases h
    split at h
    · cases h; omega
    · cases h
def toksN : Nat → List UInt8 → Option (List Tok)
  | 0, _ => some []
  | k + 1, l => match l.dropWhile blank with
    | [] => some []
    | c :: r => match firstT (c :: r) with
      | none => none
      | some (t, n) => (toksN k ((c :: r).drop n)).map (t :: ·)
def toks (l : List UInt8) : Option (List Tok) := toksN (l.length + 1) l
theorem dw_len (l : List UInt8) : (l.dropWhile blank).length ≤ l.length := List.Sublist.length_le (List.dropWhile_sublist blank)
theorem toksN_more : ∀ (k m : Nat) (l : List UInt8), l.length < k → l.length < m → toksN k l = toksN m l := by
  intro k
  induction k with
  | zero => intro m l h; omega
  | succ k ih =>
    intro m l h1 h2
    cases m with
    | zero => omega
    | succ m =>
      rw [toksN, toksN]
      have hd := dw_len l
      split
      · rfl
      · rename_i c r hcr
        split
        · rfl
        · rename_i t n hf
          have hp := first_pos hf
          rw [hcr] at hd
          have e : ((c :: r).drop n).length < (c :: r).length := by rw [List.length_drop]; omega
          rw [ih m _ (by omega) (by omega)]
theorem toks_eq (l : List UInt8) : toks l = match l.dropWhile blank with
    | [] => some []
    | c :: r => match firstT (c :: r) with
      | none => none
      | some (t, n) => (toks ((c :: r).drop n)).map (t :: ·) := by
  unfold toks
  rw [toksN]
  have hd := dw_len l
  split
  · rfl
  · rename_i c r hcr
    split
    · rfl
    · rename_i t n hf
      have hp := first_pos hf
      rw [hcr] at hd
      have e : ((c :: r).drop n).length < (c :: r).length := by rw [List.length_drop]; omega
      rw [toksN_more _ (((c :: r).drop n).length + 1) _ (by omega) (by omega)]
theorem toks_dw (l : List UInt8) : toks (l.dropWhile blank) = toks l := by
  rw [toks_eq l, toks_eq (l.dropWhile blank)]
  have : (l.dropWhile blank).dropWhile blank = l.dropWhile blank := by
    induction l with
    | nil => rfl
    | cons c r ih =>
      by_cases h : blank c = true
      · simp [List.dropWhile_cons, h, ih]
      · simp [List.dropWhile_cons, h]
  rw [this]
theorem toks_blank {c : UInt8} {r : List UInt8} (h : blank c = true) : toks (c :: r) = toks r := by
  rw [← toks_dw (c :: r), List.dropWhile_cons, if_pos h, toks_dw]
theorem toks_first {c : UInt8} {r : List UInt8} (h : blank c = false) : toks (c :: r) = match firstT (c :: r) with
      | none => none
      | some (t, n) => (toks ((c :: r).drop n)).map (t :: ·) := by
  rw [toks_eq]
  have : (c :: r).dropWhile blank = c :: r := by simp [List.dropWhile_cons, h]
  rw [this]
theorem toks_nil : toks [] = some [] := rfl
/- The document's way. -/
def endR (l : List UInt8) : Nat := match l with
  | [] => 0
  | c :: r => if c = 34 then min (2 + cnt notQ r) (r.length + 1) else if isL c = true then 1 + cnt isW r else 1 + cnt isF r
def oneR (l : List UInt8) : Option Tok := match l with
  | [] => none
  | c :: r => if isL c = true then some (0, bsOf (c :: r), 0)
    else if c = 34 then (if r.getLast? = some 34 ∧ valB r.dropLast = true then some (2, bsOf r.dropLast, 0) else none)
    else numR (c :: r)
theorem take_cnt (p : UInt8 → Bool) (l : List UInt8) : l.take (cnt p l) = l.takeWhile p := by
  induction l with
  | nil => rfl
  | cons c r ih =>
    unfold cnt at *
    by_cases h : p c = true
    · simp [List.takeWhile_cons, h, ih]
    · simp [List.takeWhile_cons, h]
theorem at_cnt (p : UInt8 → Bool) (l : List UInt8) {c : UInt8} (h : l[cnt p l]? = some c) : p c = false := by
  induction l with
  | nil => simp at h
  | cons d r ih =>
    unfold cnt at *
    by_cases hd : p d = true
    · simp [List.takeWhile_cons, hd] at h; exact ih h
    · simp [List.takeWhile_cons, hd] at h; subst h; simpa using hd
theorem mem_cnt (p : UInt8 → Bool) (l : List UInt8) {c : UInt8} (h : c ∈ l.take (cnt p l)) : p c = true := by
  rw [take_cnt] at h
  induction l with
  | nil => cases h
  | cons d r ih =>
    by_cases hd : p d = true
    · simp [List.takeWhile_cons, hd] at h
      rcases h with rfl | h
      · exact hd
      · exact ih (by exact h)
    · simp [List.takeWhile_cons, hd] at h
theorem first_ref {c : UInt8} {r : List UInt8} (hs : sgn c = false) (h : isL c = true ∨ isF c = true ∨ c = 45 ∨ c = 34) :
    firstT (c :: r) = (oneR ((c :: r).take (endR (c :: r)))).map (fun t => (t, endR (c :: r))) := by
  have q1 : isL 34 = false := by decide
  have q2 : isF 34 = false := by decide
  by_cases h1 : isL c = true
  · have hc : c ≠ 34 := fun e => by rw [e, q1] at h1; cases h1
    simp [firstT, endR, oneR, h1, hc, Nat.add_comm 1]
  · by_cases h2 : c = 34
    · subst h2
      simp only [firstT, endR, q1, q2, if_neg, if_true, Bool.false_eq_true, if_false, or_false, reduceCtorEq]
      have hle := cnt_le notQ r
      rw [if_neg (by decide)]
      by_cases h3 : cnt notQ r = r.length
      · rw [if_pos h3]
        have e1 : min (2 + cnt notQ r) (r.length + 1) = r.length + 1 := by omega
        rw [e1]
        have e2 : ((34 : UInt8) :: r).take (r.length + 1) = 34 :: r := List.take_of_length_le (by simp)
        rw [e2]
        have e3 : oneR (34 :: r) = none := by
          simp only [oneR, q1, Bool.false_eq_true, if_false, if_true]
          rw [if_neg]
          rintro ⟨hg, _⟩
          have hm : (34 : UInt8) ∈ r.take (cnt notQ r) := by rw [h3, List.take_length]; exact List.mem_of_getLast? hg
          have := mem_cnt notQ r hm
          simp [notQ] at this
        rw [e3]; rfl
      · rw [if_neg h3]
        have hlt : cnt notQ r < r.length := by omega
        have e1 : min (2 + cnt notQ r) (r.length + 1) = 2 + cnt notQ r := by omega
        rw [e1]
        have e2 : ((34 : UInt8) :: r).take (2 + cnt notQ r) = 34 :: (r.take (cnt notQ r) ++ [r[cnt notQ r]]) := by
          rw [show 2 + cnt notQ r = (cnt notQ r + 1) + 1 by omega, List.take_succ_cons, List.take_succ_eq_append_getElem hlt]
        have e4 : r[cnt notQ r] = 34 := by
          have := at_cnt notQ r (List.getElem?_eq_getElem hlt)
          simpa [notQ] using this
        rw [e2, e4]
        simp only [oneR, q1, Bool.false_eq_true, if_false, if_true]
        simp only [List.getLast?_concat, List.dropLast_concat, true_and]
        split <;> rfl
    · have h4 : c = 45 ∨ isF c = true := by rcases h with h | h | h | h; exact absurd h h1; exact .inr h; exact .inl h; exact absurd h h2
      simp only [firstT, endR, oneR]
      rw [if_neg h1, if_pos h4, if_neg h2, if_neg h1, Nat.add_comm 1, List.take_succ_cons]
      simp only [oneR]
      rw [if_neg h1, if_neg h2]
end Go.Proofs.YtcpbjcemlkohkaaDoor
