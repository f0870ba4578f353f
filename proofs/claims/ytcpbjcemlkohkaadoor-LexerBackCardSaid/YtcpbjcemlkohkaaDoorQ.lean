/- The first token: the library's calls, words, numbers, texts. -/
import Derived.Test.YtcpbjcemlkohkaaDoorP
import Derived.Test.YtcpbjcemlkohkaaDoorS
import Derived.Lib.AtoiErrMem
namespace Go.Proofs.YtcpbjcemlkohkaaDoor
open Go.RowKit
set_option linter.unusedSimpArgs false
set_option linter.unusedVariables false
/-- The variable ErrRange holds an error, or none. -/
def Er (w : World) : Prop := ∃ ev, w.cell? ⟨4, 0, none⟩ = some ev ∧ (ev = .nilIface ∨ ∃ te pe, ev = .iface te pe)
theorem Er.keep {w w' : World} (h : Er w) (hb : Below w.heap.size w w') : Er w' := by
  obtain ⟨ev, h1, h2⟩ := h
  exact ⟨ev, cell_on hb h1, h2⟩
theorem blank_contains (c : UInt8) : ([32, 9, 10] : List UInt8).contains c = blank c := by
  simp only [blank, List.contains_cons, List.contains_nil, Bool.or_false, Bool.or_assoc]
theorem trimleft_any (s : ByteArray) (w : World) : Calls Tryd.prog 15 #[.string s, .string ⟨#[32, 9, 10]⟩] w fun e w' => e = .returned (.string (bsOf ((dat s).dropWhile blank))) ∧ Below w.heap.size w w' := by
  have h := Any.strings_TrimLeft_laid Tryd.lays161 (by kernel_rfl) s ⟨#[32, 9, 10]⟩ w (by decide) (fun j b hb => by
    match j, hb with
    | 0, hb => simp at hb; subst hb; decide
    | 1, hb => simp at hb; subst hb; decide
    | 2, hb => simp at hb; subst hb; decide
    | j + 3, hb => simp at hb)
  have e : Lib.trimLeftS s.data.toList [32, 9, 10] = (dat s).dropWhile blank := by
    unfold Lib.trimLeftS dat
    congr 1
    funext c
    exact blank_contains c
  refine h.mono fun e' w' ⟨h1, h2⟩ => ⟨?_, h2⟩
  rw [h1]
  show Ending.returned (.string ⟨(Lib.trimLeftS s.data.toList [32, 9, 10]).toArray⟩) = _
  rw [e]; rfl
theorem trimprefix_any (s : ByteArray) (w : World) : Calls Tryd.prog 42 #[.string s, .string ⟨#[45]⟩] w fun e w' => e = .returned (.string (bsOf (figs (dat s)))) ∧ w = w' := by
  refine (Tryd.strings_TrimPrefix s ⟨#[45]⟩ w).mono fun e w' ⟨h1, h2⟩ => ⟨?_, h2.symm⟩
  rw [h1]
  have e : Lib.trimPrefix s.data.toList [45] = figs (dat s) := by
    unfold Lib.trimPrefix Lib.hasPrefix figs dat
    cases s.data.toList with
    | nil => rfl
    | cons c r =>
      by_cases h : c = 45
      · subst h; simp
      · simp [h, Ne.symm h, List.isPrefixOf]
  show Ending.returned (.string ⟨(Lib.trimPrefix s.data.toList [45]).toArray⟩) = _
  rw [e]; rfl
def numA (a : Nat) (l : List UInt8) : Nat := l.foldl (fun a c => a * 10 + (c.toNat - 48)) a
theorem numA_ge (l : List UInt8) : ∀ a, a ≤ numA a l := by
  induction l with
  | nil => intro a; exact Nat.le_refl _
  | cons c r ih => intro a; have := ih (a * 10 + (c.toNat - 48)); unfold numA at *; rw [List.foldl_cons]; omega
theorem uint_all (l : List UInt8) : ∀ a, (∀ c ∈ l, isF c = true) → a < 18446744073709551616 →
    (Lib.parseUint10 a l = .ok (numA a l) ∧ numA a l < 18446744073709551616) ∨ (Lib.parseUint10 a l = .range ∧ 18446744073709551616 ≤ numA a l) := by
  induction l with
  | nil => intro a _ h; exact .inl ⟨rfl, h⟩
  | cons c r ih =>
    intro a hf ha
    have hc := (isF_iff c).1 (hf c (List.mem_cons_self ..))
    have hg := numA_ge r (a * 10 + (c.toNat - 48))
    have e : numA a (c :: r) = numA (a * 10 + (c.toNat - 48)) r := rfl
    rw [Lib.parseUint10, if_pos hc, e]
    split
    · exact .inr ⟨rfl, by omega⟩
    · split
      · exact .inr ⟨rfl, by omega⟩
      · exact ih _ (fun x hx => hf x (List.mem_cons_of_mem _ hx)) (by omega)
theorem atoi_all (l : List UInt8) (hf : ∀ c ∈ figs l, isF c = true) (hne : figs l ≠ []) :
    (Lib.atoiAll l = .ok (if l.head? = some 45 then -(numV (figs l) : Int) else (numV (figs l) : Int)) ∧ numV (figs l) ≤ 9223372036854775808) ∨ (Lib.atoiAll l = .range ∧ 4611686018427387904 < numV (figs l)) := by
  cases l with
  | nil => exact absurd rfl hne
  | cons c r =>
    have hv : numV (figs (c :: r)) = numA 0 (figs (c :: r)) := rfl
    have hm : Lib.parseMag (figs (c :: r)) = Lib.parseUint10 0 (figs (c :: r)) := by unfold Lib.parseMag; rw [if_neg hne]
    have hu := uint_all (figs (c :: r)) 0 hf (by decide)
    by_cases hc : c = 45
    · subst hc
      have ef : figs ((45 : UInt8) :: r) = r := rfl
      have e1 : Lib.atoiAll ((45 : UInt8) :: r) = match Lib.parseMag r with
        | .ok u => if 9223372036854775808 < u then .range else .ok (-(u : Int))
        | .range => .range
        | _ => Lib.atoiAll [] := by
        unfold Lib.atoiAll
        simp only [show (45 : UInt8).toNat = 45 from rfl, or_true, if_true, not_true, false_and, if_false, true_and]
        cases Lib.parseMag r <;> rfl
      rw [ef] at hm hu hv
      rw [e1, hm]
      simp only [ef, List.head?_cons, if_true]
      rw [hv]
      rcases hu with ⟨h, h2⟩ | ⟨h, h2⟩ <;> rw [h]
      · simp only []
        split
        · exact .inr ⟨rfl, by omega⟩
        · exact .inl ⟨rfl, by omega⟩
      · exact .inr ⟨rfl, by omega⟩
    · have ef : figs (c :: r) = c :: r := by unfold figs; rw [if_neg (by simpa using hc)]
      have hcf := (isF_iff c).1 (hf c (by rw [ef]; exact List.mem_cons_self ..))
      have h43 : ¬ (c.toNat = 43 ∨ c.toNat = 45) := by omega
      have h45 : ¬ c.toNat = 45 := by omega
      have e1 : Lib.atoiAll (c :: r) = match Lib.parseMag (c :: r) with
        | .ok u => if 9223372036854775808 ≤ u then .range else .ok (u : Int)
        | .range => .range
        | _ => Lib.atoiAll [] := by
        unfold Lib.atoiAll
        have h43' : ¬ c.toNat = 43 := by omega
        simp only [h43', h45, or_self, if_false, not_false_eq_true, true_and, false_and]
        cases Lib.parseMag (c :: r) <;> rfl
      rw [ef] at hm hu hv
      rw [e1, hm]
      simp only [ef, List.head?_cons]
      rw [hv, if_neg (by simpa using hc)]
      rcases hu with ⟨h, h2⟩ | ⟨h, h2⟩ <;> rw [h]
      · simp only []
        split
        · exact .inr ⟨rfl, by omega⟩
        · exact .inl ⟨rfl, by omega⟩
      · exact .inr ⟨rfl, by omega⟩
theorem atoi_any (s : ByteArray) (w : World) (hs : s.size ≤ 1000000) (hE : Er w) (hf : ∀ c ∈ figs (dat s), isF c = true) (hne : figs (dat s) ≠ []) :
    Calls Tryd.prog 43 #[.string s] w fun e w' => (∃ v er, e = .returned (.tuple #[.int .i64 v, er]) ∧ ((er = .nilIface ∧ v = (if (dat s).head? = some 45 then -(numV (figs (dat s)) : Int) else (numV (figs (dat s)) : Int)) ∧ numV (figs (dat s)) ≤ 9223372036854775808) ∨ ((∃ te pe, er = .iface te pe) ∧ 4611686018427387904 < numV (figs (dat s))))) ∧ Below w.heap.size w w' := by
  rcases atoi_all (dat s) hf hne with ⟨h, h2⟩ | ⟨h, h2⟩
  · refine (Tryd.strconv_Atoi_ok s (by omega) _ h w).mono fun e w' ⟨h3, h4⟩ => ⟨⟨_, _, h3, .inl ⟨rfl, rfl, h2⟩⟩, ?_⟩
    rcases h4 with rfl | ⟨t, rfl⟩
    · exact Below.refl _ _
    · exact Go.Lib.bytesWorld_below w _ _
  · obtain ⟨ev, h5, h6⟩ := hE
    refine (Tryd.strconv_Atoi_range s (by omega) h ev w h5 h6).mono fun e w' ⟨M, h3, _, _, h4⟩ => ⟨⟨_, _, h3, .inr ⟨⟨_, _, rfl⟩, h2⟩⟩, h4⟩
end Go.Proofs.YtcpbjcemlkohkaaDoor
