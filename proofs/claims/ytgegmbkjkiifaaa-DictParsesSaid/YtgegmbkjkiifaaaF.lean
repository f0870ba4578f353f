/- What two texts begin with in common; a dictionary's bytes. -/
import Derived.Test.YtgegmbkjkiifaaaE
import Derived.Test.YtgegmbkjkiifaaaGN
namespace Go.Proofs.Ytgegmbkjkiifaaa
open Go.RowKit Go.Lib
set_option linter.unusedSimpArgs false
set_option linter.unusedVariables false
theorem run_append8 (w : World) (ty : TypeId) (base : Nat) (v : Value) (n : Nat) (xs : List Value) (hown : w.ownsRow base 5 1 v n xs) (A : Option Addr) (m c : Nat) (ys : List Int)
    (hrow : Row w A (ys.map (Value.int .u8))) (hm : m = ys.length) (hmc : m ≤ c) (ha : A = none → c = 0) (h63 : n + m ≤ 140737488355328) (hbase : base ≤ w.heap.size) :
    ∃ v' w', (Builtin.append_ #[40, 40] ty #[v, .slice A m c]).run Try.prog w = .ok v' w' ∧ w'.ownsRow base 5 1 v' (n + m) (xs ++ ys.map (Value.int .u8)) ∧ w.grownBy w' v.ownBlock ∧ (v'.ownBlock = v.ownBlock ∨ v'.ownBlock = some w.heap.size) := by
  obtain ⟨i0, hi0, hz0, hz1, hz2⟩ := info_parts Try.info5
  cases A with
  | none =>
    have e1 : c = 0 := ha rfl
    have e2 : m = 0 := by omega
    have e3 : ys = [] := List.eq_nil_of_length_eq_zero (by omega)
    subst e1 e2 e3
    have hrun := run_append_owned_none (P := Try.prog) (w := w) base 40 ty 5 i0 1 Try.underlying40 hi0 v n xs hown
    exact ⟨v, w, hrun, by simpa using hown, ⟨rfl, rfl, rfl, Nat.le_refl _, fun _ _ _ => rfl⟩, .inl rfl⟩
  | some a =>
    obtain ⟨v', w', hr, h2, h3, _, h5⟩ := run_append_own_at (P := Try.prog) w base 40 ty 5 i0 (.int .u8 0) 1 1 Try.underlying40 hi0 hz0 hz1 hz2 rfl (by decide) v n xs hown a m c (ys.map (Value.int .u8)) (by rw [Nat.mul_one]; simp; exact hm.symm) hrow.at' (by intro u hu; obtain ⟨x, _, rfl⟩ := List.mem_map.1 hu; rfl) (by unfold maxLen; omega) (by omega) hbase
    exact ⟨v', w', hr, h2, h3, h5⟩
theorem step_append8 {w : World} {ops : Array Oper} {o : Oper} {a : Act} {K : Act → World → Prop} {Q : Exit → Act → World → Prop} {E : Prop} (hgd : o.guard = none) (s x : Operand)
    (ho : o.op = .call { callee := .builtin .append, args := #[s, x], argTypes := #[40, 40] })
    (base : Nat) (v : Value) (n : Nat) (xs : List Value) (hs : a.eval s = v) (A : Option Addr) (m c : Nat) (ys : List Int) (hx : a.eval x = .slice A m c) (hown : w.ownsRow base 5 1 v n xs)
    (hrow : Row w A (ys.map (Value.int .u8))) (hm : m = ys.length) (hmc : m ≤ c) (ha : A = none → c = 0) (h63 : n + m ≤ 140737488355328) (hbase : base ≤ w.heap.size)
    (h : ∀ v' w', w'.ownsRow base 5 1 v' (n + m) (xs ++ ys.map (Value.int .u8)) → w.grownBy w' v.ownBlock → (v'.ownBlock = v.ownBlock ∨ v'.ownBlock = some w.heap.size) → K (a.put o.dst v') w') :
    if Region.wanted o (yielded ops a.tmps) = true then Oper.wp Try.prog o a w K Q else E := by
  have hw : Region.wanted o (yielded ops a.tmps) = true := by simp [Region.wanted, hgd]
  rw [if_pos hw]
  obtain ⟨v', w', hr, h2, h3, h4⟩ := run_append8 w o.type base v n xs hown A m c ys hrow hm hmc ha h63 hbase
  unfold Oper.wp execOp
  simp only [ho, resolve, invoke, builtin, Sem.run_bind, Sem.run_pure, Result.andThen_ok, List.map_toArray, List.map_cons, List.map_nil, hs, hx, hr]
  exact h v' w' h2 h3 h4
theorem wpList_append8 {w : World} {ops : Array Oper} {rest : List Oper} {o : Oper} {a : Act} {Q : Exit → Act → World → Prop} (hgd : o.guard = none) (s x : Operand)
    (ho : o.op = .call { callee := .builtin .append, args := #[s, x], argTypes := #[40, 40] })
    (base : Nat) (v : Value) (n : Nat) (xs : List Value) (hs : a.eval s = v) (A : Option Addr) (m c : Nat) (ys : List Int) (hx : a.eval x = .slice A m c) (hown : w.ownsRow base 5 1 v n xs)
    (hrow : Row w A (ys.map (Value.int .u8))) (hm : m = ys.length) (hmc : m ≤ c) (ha : A = none → c = 0) (h63 : n + m ≤ 140737488355328) (hbase : base ≤ w.heap.size)
    (h : ∀ v' w', w'.ownsRow base 5 1 v' (n + m) (xs ++ ys.map (Value.int .u8)) → w.grownBy w' v.ownBlock → (v'.ownBlock = v.ownBlock ∨ v'.ownBlock = some w.heap.size) → wpList Try.prog ops Q rest (a.put o.dst v') w') :
    wpList Try.prog ops Q (o :: rest) a w := by
  refine wpList_plain hgd fun K hK => ?_
  obtain ⟨v', w', hr, h2, h3, h4⟩ := run_append8 w o.type base v n xs hown A m c ys hrow hm hmc ha h63 hbase
  unfold Oper.wp execOp
  simp only [ho, resolve, invoke, builtin, Sem.run_bind, Sem.run_pure, Result.andThen_ok, List.map_toArray, List.map_cons, List.map_nil, hs, hx, hr]
  exact hK _ _ (h v' w' h2 h3 h4)
/-- How many first bytes two texts have in common. -/
def cpl : List UInt8 → List UInt8 → Nat
  | a :: l, b :: m => if a = b then cpl l m + 1 else 0
  | _, _ => 0
theorem cpl_le : ∀ (l m : List UInt8), cpl l m ≤ l.length ∧ cpl l m ≤ m.length := by
  intro l
  induction l with
  | nil => intro m; cases m <;> exact ⟨Nat.le_refl _, Nat.zero_le _⟩
  | cons a l ih =>
    intro m
    cases m with
    | nil => exact ⟨Nat.zero_le _, Nat.le_refl _⟩
    | cons b m =>
      have := ih m
      unfold cpl
      split <;> simp <;> omega
theorem cpl_is : ∀ {l m : List UInt8} {k : Nat}, (∀ (i : Nat) (h : i < k), l[i]? = m[i]?) → k ≤ l.length → k ≤ m.length → (k = min l.length m.length ∨ l[k]? ≠ m[k]?) → cpl l m = k := by
  intro l
  induction l with
  | nil => intro m k _ h1 _ _; simp at h1; subst h1; cases m <;> rfl
  | cons a l ih =>
    intro m k h h1 h2 h3
    cases m with
    | nil => simp at h2; subst h2; rfl
    | cons b m =>
      unfold cpl
      cases k with
      | zero =>
        rcases h3 with h3 | h3
        · simp at h3
        · rw [if_neg]; simpa using h3
      | succ k =>
        have h0 := h 0 (by omega)
        simp at h0
        rw [if_pos h0, ih (k := k) (fun i hi => by have := h (i + 1) (by omega); simpa using this) (by simpa using h1) (by simpa using h2)]
        rcases h3 with h3 | h3
        · left; simp at h3; omega
        · right; simpa using h3
def cpT (a b : ByteArray) : Nat := cpl (dat a) (dat b)
theorem dat_len (s : ByteArray) : (dat s).length = s.size := by simp [dat]
theorem cpT_le (a b : ByteArray) : cpT a b ≤ a.size ∧ cpT a b ≤ b.size := by
  have := cpl_le (dat a) (dat b); rw [dat_len, dat_len] at this; exact this
theorem dat_get (s : ByteArray) (i : Nat) (h : i < s.size) : (dat s)[i]? = some (s[i]'h) := by
  unfold dat; rw [List.getElem?_eq_getElem (by simpa using h)]; rfl
set_option maxRecDepth 100000 in
set_option maxHeartbeats 4000000 in
theorem common_any (a b : ByteArray) (w : World) (ha : a.size ≤ 1000000) (hb : b.size ≤ 1000000) :
    Calls Try.prog 34 #[.string a, .string b] w fun e w' => e = .returned (.int .i64 (cpT a b)) ∧ Below w.heap.size w w' := by
  obtain ⟨m, hm⟩ : ∃ m, min a.size b.size = m := ⟨_, rfl⟩
  have hma : m ≤ a.size := by omega
  have hmb : m ≤ b.size := by omega
  have hmin : min ((a.size : Int)) (b.size : Int) = (m : Int) := by omega
  have hmin2 : (if (a.size : Int) ≤ (b.size : Int) then (a.size : Int) else (b.size : Int)) = (m : Int) := by split <;> omega
  obtain ⟨c, hc⟩ : ∃ c, c = cpT a b := ⟨_, rfl⟩
  rw [← hc]
  have HC := Lib.hid hc
  have HM := Lib.hid hm
  clear hc hm
  go_enter Try.func34, Try.ntmps34
  go_wp2_with fail
  go_loopw [6, 13] (fun j i wr => ∃ k : Nat, k ≤ m ∧ i = .int .i64 k ∧ Hid (Below w.heap.size w wr) ∧ Hid (∀ (i : Nat) (h : i < k), (dat a)[i]? = (dat b)[i]?)) (fun _ i _ => m - (intOf i).toNat)
  case atStart => exact ⟨0, Nat.zero_le _, rfl, Lib.hid (Below.refl _ _), Lib.hid (fun i h => by omega)⟩
  case round =>
    obtain ⟨k, hk, rfl, HBW, HK⟩ := hrel
    by_cases hlt : k < m
    · have hki : (k : Int) < (m : Int) := by omega
      have hk0 : (0 : Int) ≤ (k : Int) := by omega
      have hka : (k : Int) < (a.size : Int) := by omega
      have hkb : (k : Int) < (b.size : Int) := by omega
      have hka2 : k < a.size := by omega
      have hkb2 : k < b.size := by omega
      obtain ⟨x, hx⟩ : ∃ x, (a[k]'hka2).toNat = x := ⟨_, rfl⟩
      obtain ⟨y, hy⟩ : ∃ y, (b[k]'hkb2).toNat = y := ⟨_, rfl⟩
      have hga := dat_get a k hka2
      have hgb := dat_get b k hkb2
      by_cases hxy : x = y
      · have hE : (dat a)[k]? = (dat b)[k]? := by rw [hga, hgb]; congr 1; exact UInt8.toNat_inj.1 (by rw [hx, hy, hxy])
        have HK2 := Lib.hid (show ∀ (i : Nat) (h : i < k + 1), (dat a)[i]? = (dat b)[i]? from fun i hi => by
          rcases Nat.lt_or_ge i k with e | e
          · exact HK.out i e
          · obtain rfl : i = k := by omega
            exact hE)
        subst hxy
        have d1 : ((x : Int) != (x : Int)) = false := by simp
        have d2 : ((x : Int) == (x : Int)) = true := by simp
        clear hlt hE hga hgb
        go_wp2_with fail
        go_quiet (fail)
        go_wp2_with fail
        go_roundw
        case rel => exact ⟨k + 1, by omega, by go_num, Lib.hid (below_drewN HBW.out _), HK2⟩
        case measure => simp [intOf]; omega
      · obtain rfl : c = k := by
          rw [HC.out]
          refine cpl_is HK.out (by rw [dat_len]; omega) (by rw [dat_len]; omega) (.inr ?_)
          rw [hga, hgb]
          intro e
          injection e with e
          exact hxy (by rw [← hx, ← hy, e])
        have d2 : ((x : Int) == (y : Int)) = false := by rw [beq_eq_false_iff_ne]; omega
        have d1 : ((x : Int) != (y : Int)) = true := by rw [bne, d2]; rfl
        clear hlt hxy hga hgb
        go_wp2_with fail
        go_quiet (fail)
        go_wp2_with fail
        go_ret
        exact ⟨rfl, below_drewN HBW.out _⟩
    · have hge : ¬ (k : Int) < (m : Int) := by omega
      obtain rfl : c = m := by
        rw [HC.out]
        have hkm : k = m := by omega
        subst hkm
        refine cpl_is HK.out (by rw [dat_len]; omega) (by rw [dat_len]; omega) (.inl ?_)
        rw [dat_len, dat_len]; exact HM.out.symm
      clear hlt
      go_wp2_with fail
      go_ret
      exact ⟨rfl, HBW.out⟩
end Go.Proofs.Ytgegmbkjkiifaaa
