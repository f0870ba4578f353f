/- How many of a list's texts are below one; DictUpto's walk. -/
import Derived.Test.YtgegmbkjkiifaaaJ
namespace Go.Proofs.Ytgegmbkjkiifaaa
open Go.RowKit Go.Lib
set_option linter.unusedSimpArgs false
set_option linter.unusedVariables false
instance (x : ByteArray) (l : List ByteArray) : Decidable (x ∈ l) := @List.instDecidableMemOfLawfulBEq ByteArray instBEqOfDecidableEq inferInstance _ _
def ins (x : ByteArray) : List ByteArray → List ByteArray
  | [] => [x]
  | a :: D => if ltT x a then x :: a :: D else a :: ins x D
theorem ins_mem (x s : ByteArray) : ∀ D : List ByteArray, s ∈ ins x D ↔ s = x ∨ s ∈ D := by
  intro D
  induction D with
  | nil => simp [ins]
  | cons a D ih =>
    unfold ins
    split
    · simp
    · simp only [List.mem_cons, ih]
      constructor
      · rintro (h | h | h)
        · exact .inr (.inl h)
        · exact .inl h
        · exact .inr (.inr h)
      · rintro (h | h | h)
        · exact .inr (.inl h)
        · exact .inl h
        · exact .inr (.inr h)
theorem ins_rising {x : ByteArray} : ∀ {D : List ByteArray}, rising D → x ∉ D → rising (ins x D) := by
  intro D
  induction D with
  | nil => intro _ _; exact List.pairwise_singleton ..
  | cons a D ih =>
    intro hr hx
    obtain ⟨d1, d2⟩ := List.pairwise_cons.1 hr
    unfold ins
    split
    · rename_i h
      exact List.pairwise_cons.2 ⟨fun y hy => by
        rcases List.mem_cons.1 hy with rfl | hy
        · exact h
        · exact lt_tr h (d1 y hy), hr⟩
    · rename_i h
      have hax : ltT a x := by
        rcases lt_tri a x with k | k | k
        · exact k
        · exact absurd (k ▸ List.mem_cons_self ..) hx
        · exact absurd k h
      exact List.pairwise_cons.2 ⟨fun y hy => by
        rcases (ins_mem x y D).1 hy with rfl | hy
        · exact hax
        · exact d1 y hy, ih d2 (fun k => hx (List.mem_cons_of_mem _ k))⟩
theorem ins_upto {x : ByteArray} (s : ByteArray) : ∀ {D : List ByteArray}, rising D → x ∉ D → upto (ins x D) s = upto D s + (if ltT x s then 1 else 0) := by
  intro D
  induction D with
  | nil => intro _ _; simp only [ins, upto]; split <;> rfl
  | cons a D ih =>
    intro hr hx
    obtain ⟨d1, d2⟩ := List.pairwise_cons.1 hr
    unfold ins
    split
    · rename_i h
      rw [upto]
      by_cases hxs : ltT x s
      · rw [if_pos hxs, if_pos hxs]
      · rw [if_neg hxs, if_neg hxs]
        have : ¬ ltT a s := fun k => hxs (lt_tr h k)
        rw [upto, if_neg this]
    · rename_i h
      have hax : ltT a x := by
        rcases lt_tri a x with k | k | k
        · exact k
        · exact absurd (k ▸ List.mem_cons_self ..) hx
        · exact absurd k h
      rw [upto, upto]
      by_cases has : ltT a s
      · rw [if_pos has, if_pos has, ih d2 (fun k => hx (List.mem_cons_of_mem _ k))]
        omega
      · rw [if_neg has, if_neg has]
        have : ¬ ltT x s := fun k => has (lt_tr hax k)
        rw [if_neg this]
theorem dictL_snoc (l : List ByteArray) (x : ByteArray) : dictL (l ++ [x]) = if x ∈ l then dictL l else ins x (dictL l) := by
  split
  · rename_i h
    refine rising_ext (dictL_rising _) (dictL_rising _) fun s => ?_
    rw [dictL_mem, dictL_mem, List.mem_append, List.mem_singleton]
    exact ⟨fun k => k.elim id (fun e => e ▸ h), .inl⟩
  · rename_i h
    refine rising_ext (dictL_rising _) (ins_rising (dictL_rising _) (by rw [dictL_mem]; exact h)) fun s => ?_
    rw [dictL_mem, ins_mem, dictL_mem, List.mem_append, List.mem_singleton]
    exact ⟨fun k => k.symm, fun k => k.symm⟩
def cntU (l : List ByteArray) (s : ByteArray) : Nat := upto (dictL l) s
theorem cntU_snoc (l : List ByteArray) (x s : ByteArray) : cntU (l ++ [x]) s = cntU l s + (if ltT x s ∧ x ∉ l then 1 else 0) := by
  unfold cntU
  rw [dictL_snoc]
  split
  · rename_i h
    rw [if_neg (fun k => k.2 h)]; rfl
  · rename_i h
    rw [ins_upto s (dictL_rising l) (by rw [dictL_mem]; exact h)]
    by_cases k : ltT x s
    · rw [if_pos k, if_pos ⟨k, h⟩]
    · rw [if_neg k, if_neg (fun e => k e.1)]
theorem cntU_zero (L : List ByteArray) (s : ByteArray) : 0 = cntU (L.take 0) s := by
  have h : dictL [] = [] := List.eq_nil_of_length_eq_zero (by have := dictL_len []; simpa using this)
  rw [List.take_zero, cntU, h]; rfl
theorem lt_zero : ∀ (x s : List UInt8), x < s ++ [0] ↔ x < s ∨ x = s := by
  intro x
  induction x with
  | nil =>
    intro s
    cases s with
    | nil => simp
    | cons b s => simp
  | cons a x ih =>
    intro s
    cases s with
    | nil =>
      simp only [List.nil_append, List.cons_lt_cons_iff, List.not_lt_nil, and_false, or_false, reduceCtorEq, iff_false]
      exact UInt8.not_lt_zero
    | cons b s =>
      simp only [List.cons_append, List.cons_lt_cons_iff, ih, List.cons.injEq]
      constructor
      · rintro (h | ⟨h, k | k⟩)
        · exact .inl (.inl h)
        · exact .inl (.inr ⟨h, k⟩)
        · exact .inr ⟨h, k⟩
      · rintro ((h | ⟨h, k⟩) | ⟨h, k⟩)
        · exact .inl h
        · exact .inr ⟨h, .inl k⟩
        · exact .inr ⟨h, .inr k⟩
def zeroT (s : ByteArray) : ByteArray := s ++ ⟨#[0]⟩
theorem dat_zero (s : ByteArray) : dat (zeroT s) = dat s ++ [0] := by
  unfold zeroT dat
  rw [ByteArray.data_append]
  simp
theorem lt_zeroT (x s : ByteArray) : ltT x (zeroT s) ↔ ltT x s ∨ x = s := by
  unfold ltT
  rw [dat_zero, lt_zero]
  exact ⟨fun h => h.imp id dat_inj, fun h => h.imp id (fun e => by rw [e])⟩
theorem upto_zero : ∀ {D : List ByteArray}, rising D → ∀ s, upto D (zeroT s) = upto D s + (if s ∈ D then 1 else 0) := by
  intro D
  induction D with
  | nil => intro _ s; rfl
  | cons a D ih =>
    intro hr s
    obtain ⟨d1, d2⟩ := List.pairwise_cons.1 hr
    rw [upto, upto]
    rcases lt_tri a s with h | h | h
    · rw [if_pos ((lt_zeroT a s).2 (.inl h)), if_pos h, ih d2 s]
      have : s ∈ a :: D ↔ s ∈ D := by
        rw [List.mem_cons]; exact ⟨fun k => k.elim (fun e => absurd (e ▸ h) (lt_irr s)) id, .inr⟩
      by_cases k : s ∈ D
      · rw [if_pos k, if_pos (this.2 k)]
      · rw [if_neg k, if_neg (fun e => k (this.1 e))]
    · subst h
      rw [if_pos ((lt_zeroT a a).2 (.inr rfl)), if_neg (lt_irr a), if_pos (List.mem_cons_self ..)]
      cases D with
      | nil => rfl
      | cons b D =>
        have hb := d1 b (List.mem_cons_self ..)
        rw [upto, if_neg]
        intro k
        rcases (lt_zeroT b a).1 k with k | k
        · exact lt_asy hb k
        · exact lt_irr a (k ▸ hb)
    · rw [if_neg (fun k => ((lt_zeroT a s).1 k).elim (lt_asy h) (fun e => lt_irr s (e ▸ h))), if_neg (lt_asy h), if_neg]
      intro k
      rcases List.mem_cons.1 k with k | k
      · exact lt_irr s (k ▸ h)
      · exact lt_asy h (d1 s k)
def firstP (L : List ByteArray) (s : ByteArray) (i k : Nat) (b : Bool) : Prop := ∃ h : i < L.length, (b = true ↔ ltT L[i] s ∧ ∀ (j : Nat) (hj : j < L.length), j < k → L[j] ≠ L[i])
set_option maxRecDepth 100000 in
set_option maxHeartbeats 8000000 in
theorem upto_walk (A : Option Addr) (n c : Nat) (L : List ByteArray) (s : ByteArray) (w : World) (hA : Row w A (texts L)) (hn : n = L.length) (hn2 : n * 16 ≤ 140737488351232) (hL : ∀ s ∈ L, s.size ≤ 9223372036854775807) :
    Calls Try.prog 7 #[.slice A n c, .string s] w fun e w' => e = .returned (.bool true) ∧ Below w.heap.size w w' := by
  have HA := Lib.hid hA
  have HN := Lib.hid hn
  have HL := Lib.hid hL
  obtain ⟨f, hf⟩ := bool_of (fits6P L)
  have HF := Lib.hid hf
  obtain ⟨z, hz⟩ : ∃ z, s.size = z := ⟨_, rfl⟩
  clear hA hn hL hf
  go_enter Try.func7, Try.ntmps7
  go_wp2_with fail
  refine (fits_any A n c L _ HA.out HN.out (by omega) f HF.out).mono ?_
  rintro e w1 ⟨rfl, rfl⟩
  go_wp2_with fail
  refine (new_any A n c L _ HA.out HN.out (by omega) HL.out).mono ?_
  rintro e w1 h
  rcases h with ⟨hgood, p, rfl, hp, hb⟩ | ⟨_, rfl, hb⟩
  case inr =>
    have HB := Lib.hid hb
    clear hb
    cases f with
    | false =>
      go_wp2_with fail
      refine (alive_any _).mono ?_
      rintro e w2 ⟨rfl, hb⟩
      go_wp2_with fail
      go_ret
      exact ⟨rfl, bthen HB.out hb⟩
    | true =>
      go_wp2_with fail
      refine (alive_any _).mono ?_
      rintro e w2 ⟨rfl, hb⟩
      go_wp2_with fail
      go_ret
      exact ⟨rfl, bthen HB.out hb⟩
  case inl =>
    have HB := Lib.hid hb
    have HP := Lib.hid hp
    have HG := Lib.hid hgood
    clear hb hp hgood
    cases f with
    | false =>
      go_wp2_with fail
      refine (alive_any _).mono ?_
      rintro e w2 ⟨rfl, hb⟩
      go_wp2_with fail
      go_ret
      exact ⟨rfl, bthen HB.out hb⟩
    | true =>
      have HFF := Lib.hid (HF.out.1 rfl)
      by_cases h60 : 60 < z
      · have d : decide ((60 : Int) < (z : Int)) = true := by simp; omega
        clear h60
        go_wp2_with fail
        refine (alive_any _).mono ?_
        rintro e w2 ⟨rfl, hb⟩
        go_wp2_with fail
        go_ret
        exact ⟨rfl, bthen HB.out hb⟩
      · have d : decide ((60 : Int) < (z : Int)) = false := by simp; omega
        have hz60 : z ≤ 60 := by omega
        have hn100 : n ≤ 100 := by have h1 := HFF.out.1; have h2 := HN.out; omega
        obtain ⟨D, hD⟩ : ∃ D, D = dictL L := ⟨_, rfl⟩
        rw [← hD] at HP
        have HD := Lib.hid hD
        have HR := Lib.hid (show rising D by rw [hD]; exact dictL_rising L)
        have HLE := Lib.hid (show D.length ≤ 100 by rw [hD]; have h1 := dictL_len L; have h2 := HFF.out.1; omega)
        have HROW := Lib.hid (HA.out.keep (Nat.le_refl _) HB.out)
        clear h60 hD
        go_wp2_with fail
        go_loopw [8, 9, 10, 11] (fun c i b k wr => ∃ j : Nat, ∃ x : Nat, j ≤ n ∧ x ≤ j ∧ i = .int .i64 j ∧ c = .int .i64 x ∧ Hid (x = cntU (L.take j) s) ∧ Hid (Below w1.heap.size w1 wr)) (fun _ i _ _ _ => n - (intOf i).toNat)
        case atStart => exact ⟨0, 0, Nat.zero_le _, Nat.le_refl _, rfl, rfl, Lib.hid (cntU_zero L s), Lib.hid (Below.refl _ _)⟩
        case round =>
          obtain ⟨j, x, hj, hx, rfl, rfl, HX, HBW⟩ := hrel
          by_cases hlt : j < n
          · have hjz : j < L.length := by have := HN.out; omega
            have hji : (j : Int) < (n : Int) := by omega
            have hj0 : (0 : Int) ≤ (j : Int) := by omega
            obtain ⟨b, off, hAe, c0⟩ := text_cell (HROW.out.keep (Nat.le_refl _) HBW.out) hjz
            obtain ⟨t, ht⟩ : ∃ t, t = L[j] := ⟨_, rfl⟩
            rw [← ht] at c0
            have HT := Lib.hid ht
            obtain ⟨q0, hq0⟩ : ∃ q : Bool, Op.bytesLess t.toList s.toList = q := ⟨_, rfl⟩
            have HQ0 := Lib.hid (show q0 = true ↔ ltT t s by rw [← hq0, less_bool, decide_eq_true_iff])
            subst hAe
            clear ht
            go_wp2_with fail
            clear c0 hq0
            go_loopw [10, 11] (fun b' i' wr' => ∃ (k : Nat) (q : Bool), k ≤ j ∧ i' = .int .i64 k ∧ b' = .bool q ∧ Hid (q = true ↔ ltT t s ∧ t ∉ L.take k) ∧ Hid (Below w1.heap.size w1 wr')) (fun _ i' _ => j - (intOf i').toNat)
            case atStart => exact ⟨0, q0, Nat.zero_le _, rfl, rfl, Lib.hid (by rw [HQ0.out]; simp), HBW⟩
            case round =>
              obtain ⟨k, q, hk, rfl, rfl, HQ, HBK⟩ := hrel
              by_cases hkj : k < j
              · have hkz : k < L.length := by omega
                have hki : (k : Int) < (j : Int) := by omega
                have hkn : (k : Int) < (n : Int) := by omega
                have hk0 : (0 : Int) ≤ (k : Int) := by omega
                obtain ⟨b2, o2, he, c1⟩ := text_cell (HROW.out.keep (Nat.le_refl _) HBK.out) hkz
                obtain ⟨b3, o3, he3, c2⟩ := text_cell (HROW.out.keep (Nat.le_refl _) HBK.out) hjz
                obtain ⟨y, hy⟩ : ∃ y, y = L[k] := ⟨_, rfl⟩
                rw [← hy] at c1
                rw [← HT.out] at c2
                cases he
                cases he3
                have HY := Lib.hid hy
                have HTK := Lib.hid (show L.take (k + 1) = L.take k ++ [y] by rw [hy]; exact take_snoc L k hkz)
                clear hy
                cases q with
                | false =>
                  have HQ2 := Lib.hid (show false = true ↔ ltT t s ∧ t ∉ L.take (k + 1) from ⟨fun h => (by cases h), fun h => HQ.out.2 ⟨h.1, fun e => h.2 (by rw [HTK.out]; exact List.mem_append_left _ e)⟩⟩)
                  clear hkj hlt
                  go_wp2_with fail
                  go_quiet (fail)
                  go_wp2_with fail
                  go_roundw
                  case rel => exact ⟨k + 1, false, by omega, by go_num, rfl, HQ2, Lib.hid (below_drewN HBK.out _)⟩
                  case measure => simp [intOf]; omega
                | true =>
                  by_cases hyt : y = t
                  · have HQ2 := Lib.hid (show false = true ↔ ltT t s ∧ t ∉ L.take (k + 1) from ⟨fun h => (by cases h), fun h => absurd (by rw [HTK.out, hyt]; exact List.mem_append_right _ (List.mem_singleton.2 rfl)) h.2⟩)
                    subst hyt
                    clear hkj hlt
                    go_wp2_with fail
                    go_quiet (fail)
                    go_wp2_with fail
                    go_roundw
                    case rel => exact ⟨k + 1, false, by omega, by go_num, rfl, HQ2, Lib.hid (below_drewN HBK.out _)⟩
                    case measure => simp [intOf]; omega
                  · have HQ2 := Lib.hid (show true = true ↔ ltT t s ∧ t ∉ L.take (k + 1) from ⟨fun _ => ⟨(HQ.out.1 rfl).1, fun e => by
                      rw [HTK.out] at e
                      rcases List.mem_append.1 e with e | e
                      · exact (HQ.out.1 rfl).2 e
                      · exact hyt (List.mem_singleton.1 e).symm⟩, fun _ => rfl⟩)
                    have hne := str_ne hyt
                    clear hkj hlt hyt
                    go_wp2_with fail
                    go_quiet (fail)
                    go_wp2_with fail
                    go_roundw
                    case rel => exact ⟨k + 1, true, by omega, by go_num, rfl, Lib.hid (by have := HQ2.out; simpa using this), Lib.hid (below_drewN HBK.out _)⟩
                    case measure => simp [intOf]; omega
              · have hge : ¬ (k : Int) < (j : Int) := by omega
                obtain rfl : k = j := by omega
                have HTJ := Lib.hid (show L.take (k + 1) = L.take k ++ [t] by rw [HT.out]; exact take_snoc L k hjz)
                cases q with
                | false =>
                  have HX2 := Lib.hid (show x = cntU (L.take (k + 1)) s by
                    rw [HTJ.out, cntU_snoc, if_neg (fun h => by have := HQ.out.2 h; cases this), HX.out]; rfl)
                  clear hkj hlt
                  go_wp2_with fail
                  go_roundw
                  case rel => exact ⟨k + 1, x, by omega, by omega, by go_num, rfl, HX2, HBK⟩
                  case measure => simp [intOf]; omega
                | true =>
                  have HX2 := Lib.hid (show x + 1 = cntU (L.take (k + 1)) s by
                    rw [HTJ.out, cntU_snoc, if_pos (HQ.out.1 rfl), HX.out])
                  clear hkj hlt
                  go_wp2_with fail
                  go_roundw
                  case rel => exact ⟨k + 1, x + 1, by omega, by omega, by go_num, by go_num, HX2, HBK⟩
                  case measure => simp [intOf]; omega
          · have hge : ¬ (j : Int) < (n : Int) := by omega
            have HXU := Lib.hid (show upto D s = x by
              have := HX.out
              rw [List.take_of_length_le (by have := HN.out; omega)] at this
              rw [this, HD.out]; rfl)
            obtain ⟨q, hq⟩ := bool_of (s ∈ D)
            have HQ := Lib.hid hq
            have HP2 := Lib.hid (HP.out.keep HBW.out)
            have HBW2 := Lib.hid (bthen HB.out HBW.out)
            have HUZ1 := Lib.hid (show q = true → upto D (zeroT s) = x + 1 from fun h => by rw [upto_zero HR.out s, HXU.out, if_pos (hq.1 h)])
            have HUZ0 := Lib.hid (show q = false → upto D (zeroT s) = x from fun h => by rw [upto_zero HR.out s, HXU.out, if_neg (fun k => by have := hq.2 k; rw [h] at this; cases this)]; rfl)
            clear hlt hq
            go_wp2_with fail
            refine (find_any p D s _ HP2.out (by have := HLE.out; omega) HR.out q HQ.out).mono ?_
            rw [HXU.out]
            rintro e w2 ⟨rfl, rfl⟩
            cases q with
            | true =>
              have HUZ := Lib.hid (HUZ1.out rfl)
              clear HUZ1 HUZ0
              go_wp2_with fail
              refine (alive_any _).mono ?_
              rintro e w3 ⟨rfl, hb⟩
              have HP3 := Lib.hid (HP2.out.keep hb)
              have HB3 := Lib.hid (bthen HBW2.out hb)
              clear hb
              go_wp2_with fail
              refine (upto_any p D s _ HP3.out (by have := HLE.out; omega) HR.out).mono ?_
              rw [HXU.out]
              rintro e w4 ⟨rfl, rfl⟩
              go_wp2_with fail
              refine (upto_any p D (zeroT s) _ HP3.out (by have := HLE.out; omega) HR.out).mono ?_
              rw [HUZ.out]
              rintro e w4 ⟨rfl, rfl⟩
              have ec : ((x + 1 : Nat) : Int) = (x : Int) + 1 := by omega
              rw [ec]
              go_wp2_with fail
              go_ret
              exact ⟨by simp, HB3.out⟩
            | false =>
              have HUZ := Lib.hid (HUZ0.out rfl)
              clear HUZ1 HUZ0
              go_wp2_with fail
              refine (alive_any _).mono ?_
              rintro e w3 ⟨rfl, hb⟩
              have HP3 := Lib.hid (HP2.out.keep hb)
              have HB3 := Lib.hid (bthen HBW2.out hb)
              clear hb
              go_wp2_with fail
              refine (upto_any p D s _ HP3.out (by have := HLE.out; omega) HR.out).mono ?_
              rw [HXU.out]
              rintro e w4 ⟨rfl, rfl⟩
              go_wp2_with fail
              refine (upto_any p D (zeroT s) _ HP3.out (by have := HLE.out; omega) HR.out).mono ?_
              rw [HUZ.out]
              rintro e w4 ⟨rfl, rfl⟩
              have hx1 : ((x : Int) == (x : Int) + 1) = false := by rw [beq_eq_false_iff_ne]; omega
              go_wp2_with fail
              go_ret
              exact ⟨by simp, HB3.out⟩
end Go.Proofs.Ytgegmbkjkiifaaa
