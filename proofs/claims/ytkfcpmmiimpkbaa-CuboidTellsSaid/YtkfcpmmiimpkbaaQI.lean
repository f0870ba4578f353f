/- Lists of aggs: their cells; whether two are one, on both sides. -/
import Derived.Test.YtkfcpmmiimpkbaaQH
import Derived.Deep.QuietTactic
import Derived.BigQuiet
namespace Go.Proofs.Ytkfcpmmiimpkbaa
open Go.RowKit
set_option linter.unusedSimpArgs false
set_option linter.unusedVariables false
abbrev Ag := Int × Int × Int
def cellsG (L : List Ag) : List Value := L.flatMap fun t => [.int .i64 t.1, .int .i64 t.2.1, .int .i64 t.2.2]
theorem cellsG_cons (t : Ag) (L : List Ag) : cellsG (t :: L) = .int .i64 t.1 :: .int .i64 t.2.1 :: .int .i64 t.2.2 :: cellsG L := by simp [cellsG]
theorem cellsG_app (L M : List Ag) : cellsG (L ++ M) = cellsG L ++ cellsG M := by simp [cellsG]
theorem cellsG_length : ∀ L : List Ag, (cellsG L).length = L.length * 3 := by
  intro L
  induction L with
  | nil => rfl
  | cons p L ih => rw [cellsG_cons, List.length_cons, List.length_cons, List.length_cons, ih, List.length_cons]; omega
theorem cellsG_get : ∀ (L : List Ag) (k : Nat) (h : k < L.length), (cellsG L)[k * 3]? = some (.int .i64 L[k].1) ∧ (cellsG L)[k * 3 + 1]? = some (.int .i64 L[k].2.1) ∧ (cellsG L)[k * 3 + 2]? = some (.int .i64 L[k].2.2) := by
  intro L
  induction L with
  | nil => intro k h; simp at h
  | cons p L ih =>
    intro k h
    rw [cellsG_cons]
    cases k with
    | zero => exact ⟨rfl, rfl, rfl⟩
    | succ k =>
      have := ih k (by simpa using h)
      rw [show (k + 1) * 3 = k * 3 + 3 by omega]
      exact ⟨by simpa using this.1, by simpa using this.2.1, by simpa using this.2.2⟩
theorem Row.at3 {w : World} {A : Option Addr} {L : List Ag} {k : Nat} (h : Row w A (cellsG L)) (hk : k < L.length) :
    ∃ b off, A = some ⟨b, off, none⟩ ∧ w.cell? ⟨b, off + k * 3, none⟩ = some (.int .i64 L[k].1) ∧ w.cell? ⟨b, off + k * 3 + 1, none⟩ = some (.int .i64 L[k].2.1) ∧ w.cell? ⟨b, off + k * 3 + 2, none⟩ = some (.int .i64 L[k].2.2) := by
  rcases h with h | ⟨b, off, rfl, hc⟩
  · have := cellsG_length L; rw [h] at this; simp at this; omega
  · obtain ⟨h1, h2, h3⟩ := cellsG_get L k hk
    exact ⟨b, off, rfl, hc _ _ h1, by have := hc _ _ h2; rwa [← Nat.add_assoc] at this, by have := hc _ _ h3; rwa [← Nat.add_assoc] at this⟩
theorem own_slice3 {B : Nat} {w : World} {v : Value} {n : Nat} {L : List Ag} (h : w.ownsRow B 66 3 v n (cellsG L)) : n = L.length ∧ ∃ A c, v = .slice A n c ∧ Row w A (cellsG L) ∧ n ≤ c ∧ c ≤ maxLen ∧ (A = none → c = 0) := by
  have hn : n = L.length := by have := h.1; rw [cellsG_length] at this; omega
  refine ⟨hn, ?_⟩
  rcases h.2 with ⟨rfl, h0⟩ | ⟨g, cap, cur, rfl, _, hc, h1, h2, h3, h4⟩
  · have hz0 : L = [] := List.length_eq_zero_iff.1 (by omega)
    exact ⟨none, 0, by rw [h0], .inl (by rw [hz0]; rfl), by omega, Nat.zero_le _, fun _ => rfl⟩
  · refine ⟨_, cap, rfl, ?_, h1, h2, fun h => by cases h⟩
    refine .inr ⟨g, 0, rfl, fun i u hu => ?_⟩
    rw [Nat.zero_add]
    have hcc : w.cell? ⟨g, i, none⟩ = cur[i]? := by simp [World.cell?, hc]
    rw [hcc, ← hu, ← h4, List.getElem?_take, Array.getElem?_toList, if_pos]
    rcases Nat.lt_or_ge i (n * 3) with h | h
    · exact h
    · rw [List.getElem?_eq_none (by rw [cellsG_length]; omega)] at hu; cases hu
theorem grown_own3 {w w' : World} {B : Nat} {v : Value} {n : Nat} {xs : List Value} {e : TypeId} (hown : w.ownsRow B e 3 v n xs) (hg : w.grownBy w' v.ownBlock) (h : B ≤ w.heap.size) : Below B w w' :=
  ⟨hg.os, hg.tape, hg.output, hg.size, fun i hi => hg.block i (by omega) (by
    rcases hown.2 with ⟨rfl, _⟩ | ⟨g, cap, cur, rfl, hb, _⟩
    · simp [Value.ownBlock]
    · simp [Value.ownBlock]; omega)⟩
theorem own_below3 {w w' : World} {B : Nat} {e : TypeId} {v : Value} {n : Nat} {xs : List Value} (h : w.ownsRow B e 3 v n xs) (hb : Below w.heap.size w w') : w'.ownsRow B e 3 v n xs :=
  h.kept (row := none) ⟨hb.os, hb.tape, hb.output, hb.size, fun i hi _ => hb.block i hi⟩ (by cases v.ownBlock <;> simp)
set_option maxRecDepth 100000 in
set_option maxHeartbeats 16000000 in
theorem refaggs_any (A B : Option Addr) (n c m d : Nat) (L M : List Ag) (w : World) (hA : Row w A (cellsG L)) (hB : Row w B (cellsG M)) (hn : n = L.length) (hm : m = M.length) (hn2 : n ≤ 9223372036854775807) (hm2 : m ≤ 9223372036854775807) (r : Bool) (hr : r = true ↔ L = M) :
    Calls Try.prog 56 #[.slice A n c, .slice B m d] w fun e w' => e = .returned (.bool r) ∧ Below w.heap.size w w' := by
  have HA := Lib.hid hA
  have HB := Lib.hid hB
  have HN := Lib.hid hn
  have HM := Lib.hid hm
  have HR := Lib.hid hr
  clear hA hB hn hm hr
  by_cases hnm : n = m
  case neg =>
    obtain rfl : r = false := by
      cases r; rfl
      exact absurd (by rw [HN.out, HM.out, HR.out.1 rfl]) hnm
    have q1 : ((n : Int) == (m : Int)) = false := by rw [beq_eq_false_iff_ne]; omega
    have q2 : ((n : Int) != (m : Int)) = true := by rw [bne, q1]; rfl
    clear hnm
    go_enter Try.func56, Try.ntmps56
    go_wp2_with fail
    go_ret
    exact ⟨rfl, Below.refl _ _⟩
  case pos =>
  subst hnm
  go_enter Try.func56, Try.ntmps56
  go_wp2_with fail
  go_loopw [5] (fun i wr => ∃ k : Nat, i = .int .i64 (k : Int) ∧ k ≤ n ∧ Hid (L.take k = M.take k) ∧ Hid (Below w.heap.size w wr)) (fun i _ => n - (intOf i).toNat)
  case atStart => exact ⟨0, rfl, by omega, Lib.hid rfl, Lib.hid (Below.refl _ _)⟩
  case round =>
    obtain ⟨k, rfl, hk, HE, HBW⟩ := hrel
    by_cases hlt : k < n
    case neg =>
      have hki : ¬ (k : Int) < (n : Int) := by omega
      obtain rfl : r = true := HR.out.2 (by
        have h := HE.out
        rwa [List.take_of_length_le (by have := HN.out; omega), List.take_of_length_le (by have := HM.out; omega)] at h)
      clear hlt
      go_wp2_with fail
      go_ret
      exact ⟨rfl, HBW.out⟩
    case pos =>
    have hki : (k : Int) < (n : Int) := by omega
    have hk0 : (0 : Int) ≤ (k : Int) := by omega
    have hkL : k < L.length := by have := HN.out; omega
    have hkM : k < M.length := by have := HM.out; omega
    obtain ⟨b1, o1, rfl, x0, x1, x2⟩ := (HA.out.keep (Nat.le_refl _) HBW.out).at3 hkL
    obtain ⟨b2, o2, rfl, y0, y1, y2⟩ := (HB.out.keep (Nat.le_refl _) HBW.out).at3 hkM
    obtain ⟨⟨t0, t1, t2⟩, ht⟩ : ∃ t, t = L[k] := ⟨_, rfl⟩
    obtain ⟨⟨s0, s1, s2⟩, hs⟩ : ∃ t, t = M[k] := ⟨_, rfl⟩
    rw [← ht] at x0 x1 x2
    rw [← hs] at y0 y1 y2
    have HT := Lib.hid ht
    have HS := Lib.hid hs
    clear ht hs hlt
    by_cases h0 : t0 = s0
    · subst h0
      by_cases h1 : t1 = s1
      · subst h1
        by_cases h2 : t2 = s2
        · subst h2
          have HE2 := Lib.hid (show L.take (k + 1) = M.take (k + 1) by rw [take_snoc L k hkL, take_snoc M k hkM, HE.out, ← HT.out, ← HS.out])
          go_wp2_with fail
          go_quiet (fail)
          go_wp2_with fail
          go_roundw
          case rel => exact ⟨k + 1, by go_num, by omega, HE2, Lib.hid (below_drewN HBW.out _)⟩
          case measure => simp [intOf]; omega
        · have z1 : (t2 == s2) = false := beq_eq_false_iff_ne.2 h2
          have HNE := Lib.hid (show r = false by
            cases r; rfl
            have e := HR.out.1 rfl
            subst e
            have h := HT.out.trans HS.out.symm
            exact absurd (congrArg (fun t => t.2.2) h) h2)
          clear h2
          go_wp2_with fail
          go_quiet (fail)
          go_wp2_with fail
          go_ret
          exact ⟨by rw [HNE.out]; rfl, below_drewN HBW.out _⟩
      · have z1 : (t1 == s1) = false := beq_eq_false_iff_ne.2 h1
        have HNE := Lib.hid (show r = false by
          cases r; rfl
          have e := HR.out.1 rfl
          subst e
          have h := HT.out.trans HS.out.symm
          exact absurd (congrArg (fun t => t.2.1) h) h1)
        clear h1
        go_wp2_with fail
        go_quiet (fail)
        go_wp2_with fail
        go_ret
        exact ⟨by rw [HNE.out]; rfl, below_drewN HBW.out _⟩
    · have z1 : (t0 == s0) = false := beq_eq_false_iff_ne.2 h0
      have HNE := Lib.hid (show r = false by
        cases r; rfl
        have e := HR.out.1 rfl
        subst e
        have h := HT.out.trans HS.out.symm
        exact absurd (congrArg (fun t => t.1) h) h0)
      clear h0
      go_wp2_with fail
      go_quiet (fail)
      go_wp2_with fail
      go_ret
      exact ⟨by rw [HNE.out]; rfl, below_drewN HBW.out _⟩

end Go.Proofs.Ytkfcpmmiimpkbaa
