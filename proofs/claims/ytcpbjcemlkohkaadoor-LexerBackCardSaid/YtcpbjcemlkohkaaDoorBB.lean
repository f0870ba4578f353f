/- Two lists of tokens. -/
import Derived.Test.YtcpbjcemlkohkaaDoorAA
import Derived.Deep.QuietTactic
import Derived.BigQuiet
namespace Go.Proofs.YtcpbjcemlkohkaaDoor
open Go.RowKit
set_option linter.unusedSimpArgs false
set_option linter.unusedVariables false
set_option maxRecDepth 100000 in
set_option maxHeartbeats 16000000 in
theorem refsame_any (A B : Option Addr) (n c m d : Nat) (L M : List Tok) (w : World) (hA : Row w A (cellsT L)) (hB : Row w B (cellsT M)) (hn : n = L.length) (hm : m = M.length) (hn2 : n ≤ 9223372036854775807) (hm2 : m ≤ 9223372036854775807) (r : Bool) (hr : r = true ↔ L = M) :
    Calls Tryd.prog 10 #[.slice A n c, .slice B m d] w fun e w' => e = .returned (.bool r) ∧ Below w.heap.size w w' := by
  have HA := Lib.hid hA
  have HB := Lib.hid hB
  have HN := Lib.hid hn
  have HM := Lib.hid hm
  have HR := Lib.hid hr
  clear hA hB hn hm hr
  by_cases hnm : n = m
  case neg =>
    obtain rfl : r = false := by
      cases r; rfl
      exact absurd (by rw [HN.out, HM.out, HR.out.1 rfl]) hnm
    have q1 : ((n : Int) == (m : Int)) = false := by rw [beq_eq_false_iff_ne]; omega
    have q2 : ((n : Int) != (m : Int)) = true := by rw [bne, q1]; rfl
    clear hnm
    go_enter Tryd.func10, Tryd.ntmps10
    go_wp2_with fail
    go_ret
    exact ⟨rfl, Below.refl _ _⟩
  case pos =>
  subst hnm
  go_enter Tryd.func10, Tryd.ntmps10
  go_wp2_with fail
  go_loopw [5] (fun i wr => ∃ k : Nat, i = .int .i64 (k : Int) ∧ k ≤ n ∧ Hid (L.take k = M.take k) ∧ Hid (Below w.heap.size w wr)) (fun i _ => n - (intOf i).toNat)
  case atStart => exact ⟨0, rfl, by omega, Lib.hid rfl, Lib.hid (Below.refl _ _)⟩
  case round =>
    obtain ⟨k, rfl, hk, HE, HBW⟩ := hrel
    by_cases hlt : k < n
    case neg =>
      have hki : ¬ (k : Int) < (n : Int) := by omega
      obtain rfl : r = true := HR.out.2 (by
        have h := HE.out
        rwa [List.take_of_length_le (by have := HN.out; omega), List.take_of_length_le (by have := HM.out; omega)] at h)
      clear hlt
      go_wp2_with fail
      go_ret
      exact ⟨rfl, HBW.out⟩
    case pos =>
    have hki : (k : Int) < (n : Int) := by omega
    have hk0 : (0 : Int) ≤ (k : Int) := by omega
    have hkL : k < L.length := by have := HN.out; omega
    have hkM : k < M.length := by have := HM.out; omega
    obtain ⟨b1, o1, rfl, x0, x1, x2⟩ := (HA.out.keep (Nat.le_refl _) HBW.out).at3 hkL
    obtain ⟨b2, o2, rfl, y0, y1, y2⟩ := (HB.out.keep (Nat.le_refl _) HBW.out).at3 hkM
    obtain ⟨⟨t0, t1, t2⟩, ht⟩ : ∃ t, t = L[k] := ⟨_, rfl⟩
    obtain ⟨⟨s0, s1, s2⟩, hs⟩ : ∃ t, t = M[k] := ⟨_, rfl⟩
    rw [← ht] at x0 x1 x2
    rw [← hs] at y0 y1 y2
    have HT := Lib.hid ht
    have HS := Lib.hid hs
    clear ht hs hlt
    by_cases h0 : t0 = s0
    · subst h0
      by_cases h1 : t1 = s1
      · subst h1
        by_cases h2 : t2 = s2
        · subst h2
          have HE2 := Lib.hid (show L.take (k + 1) = M.take (k + 1) by rw [take_snoc L k hkL, take_snoc M k hkM, HE.out, ← HT.out, ← HS.out])
          go_wp2_with fail
          go_quiet (fail)
          go_wp2_with fail
          go_roundw
          case rel => exact ⟨k + 1, by go_num, by omega, HE2, Lib.hid (below_drewN HBW.out _)⟩
          case measure => simp [intOf]; omega
        · have z1 : (t2 == s2) = false := beq_eq_false_iff_ne.2 h2
          have HNE := Lib.hid (show r = false by
            cases r; rfl
            have e := HR.out.1 rfl
            subst e
            have h := HT.out.trans HS.out.symm
            exact absurd (congrArg (fun t => t.2.2) h) h2)
          clear h2
          go_wp2_with fail
          go_quiet (fail)
          go_wp2_with fail
          go_ret
          exact ⟨by rw [HNE.out]; rfl, below_drewN HBW.out _⟩
      · have z1 : (t1.toList == s1.toList) = false := str_ne h1
        have HNE := Lib.hid (show r = false by
          cases r; rfl
          have e := HR.out.1 rfl
          subst e
          have h := HT.out.trans HS.out.symm
          exact absurd (congrArg (fun t => t.2.1) h) h1)
        clear h1
        go_wp2_with fail
        go_quiet (fail)
        go_wp2_with fail
        go_ret
        exact ⟨by rw [HNE.out]; rfl, below_drewN HBW.out _⟩
    · have z1 : (t0 == s0) = false := beq_eq_false_iff_ne.2 h0
      have HNE := Lib.hid (show r = false by
        cases r; rfl
        have e := HR.out.1 rfl
        subst e
        have h := HT.out.trans HS.out.symm
        exact absurd (congrArg (fun t => t.1) h) h0)
      clear h0
      go_wp2_with fail
      go_quiet (fail)
      go_wp2_with fail
      go_ret
      exact ⟨by rw [HNE.out]; rfl, below_drewN HBW.out _⟩
end Go.Proofs.YtcpbjcemlkohkaaDoor
