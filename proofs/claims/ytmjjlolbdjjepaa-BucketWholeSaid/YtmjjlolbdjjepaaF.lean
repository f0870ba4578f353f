/- Whether two lists of stretches are one; the document's Cut; the live question. -/
import Derived.Test.YtmjjlolbdjjepaaE
import Derived.Deep.QuietTactic
import Derived.BigQuiet
namespace Go.Proofs.Ytmjjlolbdjjepaa
open Go.RowKit
set_option linter.unusedSimpArgs false
set_option linter.unusedVariables false
def cellsOf (a : Nat → Int × Int) (n : Nat) : List Value := (List.range n).flatMap (fun i => [.int .i64 (a i).1, .int .i64 (a i).2])
theorem cellsOf_succ (a : Nat → Int × Int) (n : Nat) : cellsOf a (n + 1) = cellsOf a n ++ [.int .i64 (a n).1, .int .i64 (a n).2] := by simp [cellsOf, List.range_succ]
theorem cellsOf_length (a : Nat → Int × Int) (n : Nat) : (cellsOf a n).length = n * 2 := by
  induction n with
  | zero => rfl
  | succ n ih => rw [cellsOf_succ, List.length_append, ih]; simp; omega
theorem cellsOf_get (a : Nat → Int × Int) : ∀ (n k : Nat), k < n → (cellsOf a n)[k * 2]? = some (.int .i64 (a k).1) ∧ (cellsOf a n)[k * 2 + 1]? = some (.int .i64 (a k).2) := by
  intro n
  induction n with
  | zero => intro k h; omega
  | succ n ih =>
    intro k h
    rw [cellsOf_succ]
    rcases Nat.lt_or_ge k n with h1 | h1
    · have := ih k h1
      rw [List.getElem?_append_left (by rw [cellsOf_length]; omega), List.getElem?_append_left (by rw [cellsOf_length]; omega)]
      exact this
    · obtain rfl : k = n := by omega
      rw [List.getElem?_append_right (by rw [cellsOf_length]; omega), List.getElem?_append_right (by rw [cellsOf_length]; omega), cellsOf_length]
      rw [show k * 2 - k * 2 = 0 by omega, show k * 2 + 1 - k * 2 = 1 by omega]
      exact ⟨rfl, rfl⟩
def posP (g t f : Int) (i : Nat) : Int × Int := (pos g t f i, pos g t f (i + 1))
theorem runC_eq (g t f : Int) (k : Nat) : runC g t f k = cellsOf (posP g t f) k := rfl
theorem Row.at2 {w : World} {A : Option Addr} {a : Nat → Int × Int} {n k : Nat} (h : Row w A (cellsOf a n)) (hk : k < n) :
    ∃ b off, A = some ⟨b, off, none⟩ ∧ w.cell? ⟨b, off + k * 2, none⟩ = some (.int .i64 (a k).1) ∧ w.cell? ⟨b, off + k * 2 + 1, none⟩ = some (.int .i64 (a k).2) := by
  rcases h with h | ⟨b, off, rfl, hc⟩
  · have := cellsOf_length a n; rw [h] at this; simp at this; omega
  · obtain ⟨h1, h2⟩ := cellsOf_get a n k hk
    exact ⟨b, off, rfl, hc _ _ h1, by have := hc _ _ h2; rwa [← Nat.add_assoc] at this⟩
theorem own_row2 {w : World} {base n : Nat} {e : TypeId} {v : Value} {xs : List Value} (h : w.ownsRow base e 2 v n xs) (hn : n = 0 → v = .slice none 0 0) : ∃ A c, v = .slice A n c ∧ n ≤ c ∧ Row w A xs := by
  rcases h.2 with ⟨h0, h1⟩ | ⟨g, cap, cur, rfl, h1, h2, h3, h4, h5, h6⟩
  · subst h1
    exact ⟨none, 0, h0, Nat.le_refl _, .inl (List.eq_nil_of_length_eq_zero (by simpa using h.1))⟩
  · refine ⟨_, _, rfl, h3, .inr ⟨g, 0, rfl, fun j u hu => ?_⟩⟩
    have := h.cells (g := g) rfl j u hu
    unfold Addr.add at this
    split at this
    · rename_i hj; subst hj; simpa using this
    · simpa using this
set_option maxHeartbeats 1000000 in
theorem same_yes (A A' : Option Addr) (n c n' c' : Nat) (a : Nat → Int × Int) (w : World) (hA : Row w A (cellsOf a n)) (hA' : Row w A' (cellsOf a n)) (hz : n' = n) (hn : n ≤ 1000000) :
    Calls Try.prog 21 #[.slice A n c, .slice A' n' c'] w fun e w' => e = .returned (.bool true) ∧ Below w.heap.size w w' := by
  subst hz
  go_enter Try.func21, Try.ntmps21
  go_wp2_with fail
  go_loopw [5] (fun i wr => ∃ k : Nat, k ≤ n' ∧ i = .int .i64 k ∧ Below w.heap.size w wr) (fun i _ => n' - (intOf i).toNat)
  case atStart => exact ⟨0, Nat.zero_le _, rfl, Below.refl _ _⟩
  case round =>
    obtain ⟨k, hk, rfl, hB⟩ := hrel
    by_cases hlt : k < n'
    · obtain ⟨b, off, hA1, hc1, hc2⟩ := (hA.keep (Nat.le_refl _) hB).at2 hlt
      obtain ⟨b', off', hA2, hc3, hc4⟩ := (hA'.keep (Nat.le_refl _) hB).at2 hlt
      obtain ⟨x, hx⟩ : ∃ x, x = (a k).1 := ⟨_, rfl⟩
      obtain ⟨y, hy⟩ : ∃ y, y = (a k).2 := ⟨_, rfl⟩
      rw [← hx] at hc1 hc3
      rw [← hy] at hc2 hc4
      have hk1 : (k : Int) < (n' : Int) := by omega
      have hk0 : (0 : Int) ≤ (k : Int) := by omega
      clear hx hy
      subst hA1 hA2
      go_wp2_with fail
      go_quiet (fail)
      go_wp2_with fail
      go_roundw
      case rel => exact ⟨k + 1, by omega, by go_num, below_drewN hB _⟩
      case measure => simp [intOf]; omega
    · go_wp2
      go_ret
      exact ⟨rfl, hB⟩
set_option maxRecDepth 100000 in
set_option maxHeartbeats 2000000 in
theorem rcut_good (f t g : Int) (w : World) (hg : okGran g) (hf : okTime f) (ht : okTime t) :
    Calls Try.prog 20 #[.int .i64 f, .int .i64 t, .int .i64 g] w fun e w' => ∃ k, EndsAt g t f k ∧ Cuts w g t f k e w' := by
  obtain ⟨i0, hi0, hz0, hz1, hz2⟩ := info_parts Try.info34
  obtain ⟨g1, g2⟩ := hg
  obtain ⟨t1, t2⟩ := ht
  have HF := Lib.hid hf
  go_enter Try.func20, Try.ntmps20
  go_wp2_with fail
  refine (fits_yes f g _ ⟨g1, g2⟩ HF.out).mono ?_
  rintro e w1 ⟨rfl, rfl⟩
  go_wp2_with fail
  refine (fits_yes t g _ ⟨g1, g2⟩ ⟨t1, t2⟩).mono ?_
  rintro e w1 ⟨rfl, rfl⟩
  go_wp2_with fail
  go_loopw [10, 11] (fun v i wr => ∃ (k : Nat) (z : Int), k ≤ 1000 ∧ i = .int .i64 z ∧ Hid (z = pos g t f k) ∧ -1099511627776 ≤ z ∧ z ≤ 1099511627776 ∧ wr.ownsRow w.heap.size 34 2 v k (runC g t f k) ∧ Below w.heap.size w wr ∧ Hid (k = 0 → v = .slice none 0 0) ∧ Hid (∀ i, i < k → pos g t f i < t))
    (fun _ i _ => (t - intOf i).toNat)
  case atStart => exact ⟨0, f, Nat.zero_le _, rfl, Lib.hid rfl, HF.out.1, HF.out.2, World.ownsRow_nil _ _ _ _, Below.refl _ _, Lib.hid (fun _ => rfl), Lib.hid (fun i h => by omega)⟩
  case round =>
    obtain ⟨k, z, hk, rfl, HZ, hz3, hz4, hown, hB, HN, HI⟩ := hrel
    obtain ⟨A, c, rfl, hkc, hrow⟩ := own_row2 hown HN.out
    have HO := Lib.hid hown
    clear hrow hown
    by_cases hlt : z < t
    · by_cases hk9 : k < 1000
      · have hk9' : (k : Int) < 1000 := by omega
        have hfb := flr_bd (t := z) g1
        have hnb := nxt_bd g1 hlt
        obtain ⟨F, hF⟩ : ∃ F, F = flr z g := ⟨_, rfl⟩
        by_cases hmin : t < F + g
        · skip
          have hEn : t = nxt g t z := by unfold nxt; rw [← hF]; omega
          rw [← hF] at hfb
          rw [← hEn] at hnb
          obtain ⟨hfb1, hfb2⟩ := hfb
          obtain ⟨hnb1, hnb2⟩ := hnb
          have HFF := Lib.hid hF
          have HEN := Lib.hid (show t = pos g t f (k + 1) from hEn.trans (by show nxt g t z = nxt g t (pos g t f k); rw [← HZ.out]))
          have HRC := Lib.hid (show runC g t f (k + 1) = runC g t f k ++ [.int .i64 z, .int .i64 t] by rw [runC_succ, ← HEN.out, ← HZ.out])
          have HI2 := Lib.hid (show ∀ i, i < k + 1 → pos g t f i < t by
            intro i hi
            rcases Nat.lt_or_ge i k with h | h
            · exact HI.out i h
            · rw [show i = k by omega, ← HZ.out]; exact hlt)
          have HZT := Lib.hid (show okBoth z g from ⟨⟨g1, g2⟩, ⟨hz3, hz4⟩⟩)
          clear hF hEn HI HN
          go_wp2_with fail
          refine (rFloor_good z g _ HZT.out).mono ?_
          rintro e w1 ⟨rfl, rfl⟩
          rw [← HFF.out]
          have hown := HO.out
          have hbs := hB.size
          go_wp2_with (at_builtin; refine wpList_append_own _ rfl _ _ 29 rfl w.heap.size 34 i0 (.agg #[.int .i64 0, .int .i64 0]) 2 16 Try.underlying29 hi0 hz0 hz1 hz2 rfl (by decide) _ _ _ rfl (hown.alloc _) ⟨wr.heap.size, 0, none⟩ 1 1 [.int .i64 z, .int .i64 t] rfl rfl ?c1 ?c2 ?c3 ?c4 ?c5 ?_)
          case c1 =>
            intro j u hj
            match j, hj with
            | 0, hj => simp at hj; subst hj; simp [Addr.add]
            | 1, hj => simp at hj; subst hj; simp [Addr.add]
          case c2 => intro u hu; simp at hu; rcases hu with rfl | rfl <;> rfl
          case c3 => unfold maxLen; omega
          case c4 => omega
          case c5 => simp; omega
          intro v' w2 hown' hgrow _
          have hB' : Below w.heap.size w w2 := (bpush hB _).grown hgrow (by simp; omega) (fun k hk => (HO.out.lt k hk).1)
          rw [← HRC.out] at hown'
          clear hgrow hB hown HO
          go_wp2
          go_roundw
          case rel => exact ⟨k + 1, t, by omega, rfl, HEN, by omega, by omega, hown', hB', Lib.hid (fun h => by omega), HI2⟩
          case measure => simp [intOf]; omega

        · skip
          have hmin2 : F + g ≤ t := by omega
          have hEn : (F + g) = nxt g t z := by unfold nxt; rw [← hF]; omega
          rw [← hF] at hfb
          rw [← hEn] at hnb
          obtain ⟨hfb1, hfb2⟩ := hfb
          obtain ⟨hnb1, hnb2⟩ := hnb
          have HFF := Lib.hid hF
          have HEN := Lib.hid (show (F + g) = pos g t f (k + 1) from hEn.trans (by show nxt g t z = nxt g t (pos g t f k); rw [← HZ.out]))
          have HRC := Lib.hid (show runC g t f (k + 1) = runC g t f k ++ [.int .i64 z, .int .i64 (F + g)] by rw [runC_succ, ← HEN.out, ← HZ.out])
          have HI2 := Lib.hid (show ∀ i, i < k + 1 → pos g t f i < t by
            intro i hi
            rcases Nat.lt_or_ge i k with h | h
            · exact HI.out i h
            · rw [show i = k by omega, ← HZ.out]; exact hlt)
          have HZT := Lib.hid (show okBoth z g from ⟨⟨g1, g2⟩, ⟨hz3, hz4⟩⟩)
          clear hF hEn HI HN
          go_wp2_with fail
          refine (rFloor_good z g _ HZT.out).mono ?_
          rintro e w1 ⟨rfl, rfl⟩
          rw [← HFF.out]
          have hown := HO.out
          have hbs := hB.size
          go_wp2_with (at_builtin; refine wpList_append_own _ rfl _ _ 29 rfl w.heap.size 34 i0 (.agg #[.int .i64 0, .int .i64 0]) 2 16 Try.underlying29 hi0 hz0 hz1 hz2 rfl (by decide) _ _ _ rfl (hown.alloc _) ⟨wr.heap.size, 0, none⟩ 1 1 [.int .i64 z, .int .i64 (F + g)] rfl rfl ?c1 ?c2 ?c3 ?c4 ?c5 ?_)
          case c1 =>
            intro j u hj
            match j, hj with
            | 0, hj => simp at hj; subst hj; simp [Addr.add]
            | 1, hj => simp at hj; subst hj; simp [Addr.add]
          case c2 => intro u hu; simp at hu; rcases hu with rfl | rfl <;> rfl
          case c3 => unfold maxLen; omega
          case c4 => omega
          case c5 => simp; omega
          intro v' w2 hown' hgrow _
          have hB' : Below w.heap.size w w2 := (bpush hB _).grown hgrow (by simp; omega) (fun k hk => (HO.out.lt k hk).1)
          rw [← HRC.out] at hown'
          clear hgrow hB hown HO
          go_wp2
          go_roundw
          case rel => exact ⟨k + 1, (F + g), by omega, rfl, HEN, by omega, by omega, hown', hB', Lib.hid (fun h => by omega), HI2⟩
          case measure => simp [intOf]; omega
      · have hk9' : ¬ (k : Int) < 1000 := by omega
        have HE := Lib.hid (show EndsAt g t f k from ⟨by omega, .inl (by omega), HI.out⟩)
        go_wp2
        go_ret2
        exact ⟨k, HE.out, _, rfl, HO.out, HN.out, hB⟩
    · have HE := Lib.hid (show EndsAt g t f k from ⟨by omega, .inr (by rw [← HZ.out]; omega), HI.out⟩)
      go_wp2
      go_ret2
      exact ⟨k, HE.out, _, rfl, HO.out, HN.out, hB⟩
end Go.Proofs.Ytmjjlolbdjjepaa
