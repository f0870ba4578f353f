/- The document's Name and Value. -/
import Derived.Test.YtlfhjjlgmhkepaaR
namespace Go.Proofs.Ytlfhjjlgmhkepaa
open Go.RowKit
set_option linter.unusedSimpArgs false
set_option linter.unusedVariables false
def WordsPost (w : World) (e : Ending) (w' : World) : Prop := ∃ b, e = .returned (.slice (some ⟨b, 0, none⟩) 20 20) ∧ Row w' (some ⟨b, 0, none⟩) (texts wordsL) ∧ Below w.heap.size w w'
set_option maxRecDepth 100000 in
set_option maxHeartbeats 1000000 in
theorem words_any (w : World) : Calls Try.prog 74 #[] w (WordsPost w) := by
  go_enter Try.func74, Try.ntmps74
  go_wp2_with fail
  go_ret
  exact ⟨_, rfl, Row.made rfl rfl, bpush (Below.refl _ _) _⟩
set_option maxRecDepth 100000 in
set_option maxHeartbeats 4000000 in
theorem refname_any (s : ByteArray) (w : World) (hs : s.size ≤ 9223372036854775807) (r : Bool) (hr : r = true ↔ nameP s) :
    Calls Try.prog 58 #[.string s] w fun e w' => e = .returned (.bool r) ∧ Below w.heap.size w w' := by
  have HR := Lib.hid hr
  clear hr
  have HF := Lib.hid (show ¬ nameP s → r = false from fun h => by
    cases r with
    | false => rfl
    | true => exact absurd (HR.out.1 rfl) h)
  go_enter Try.func58, Try.ntmps58
  go_wp2_with fail
  refine (words_any _).mono ?_
  rintro e w1 ⟨b, rfl, hrow, hb⟩
  have HROW := Lib.hid hrow
  have HB := Lib.hid hb
  clear hrow hb
  go_wp2_with fail
  go_loop [4] (fun i => ∃ k : Nat, k ≤ 20 ∧ i = .int .i64 k ∧ Hid (∀ (j : Nat) (h : j < wordsL.length), j < k → wordsL[j] ≠ s)) (fun i => 20 - (intOf i).toNat)
  case atStart => exact ⟨0, Nat.zero_le _, rfl, Lib.hid (fun j _ h => by omega)⟩
  case round =>
    obtain ⟨k, hk, rfl, HK⟩ := hrel
    by_cases hlt : k < 20
    · have hkz : k < wordsL.length := hlt
      have hki : (k : Int) < 20 := by omega
      have hk0 : (0 : Int) ≤ (k : Int) := by omega
      obtain ⟨b', off, he, c0⟩ := text_cell HROW.out hkz
      obtain ⟨q, hq⟩ : ∃ q, q = wordsL[k] := ⟨_, rfl⟩
      rw [← hq] at c0
      have HQ := Lib.hid hq
      cases he
      rw [Nat.zero_add] at c0
      clear hq
      by_cases hEq : q = s
      · subst hEq
        obtain rfl : r = false := HF.out fun h => h.2.2.1 (by rw [HQ.out]; exact List.getElem_mem _)
        clear hlt
        go_wp2_with fail
        go_ret
        exact ⟨rfl, HB.out⟩
      · have hs1 := str_ne hEq
        have HK2 := Lib.hid (show ∀ (j : Nat) (h : j < wordsL.length), j < k + 1 → wordsL[j] ≠ s from fun j h hj => by
          rcases Nat.lt_or_ge j k with e | e
          · exact HK.out j h e
          · obtain rfl : j = k := by omega
            rw [← HQ.out]; exact hEq)
        clear hlt hEq
        go_wp2_with fail
        go_round
        case rel => exact ⟨k + 1, by omega, by go_num, HK2⟩
        case measure => simp [intOf]; omega
    · have hge : ¬ (k : Int) < 20 := by omega
      have HW := Lib.hid (show s ∉ wordsL from fun h => by
        obtain ⟨j, hj, e⟩ := List.mem_iff_getElem.1 h
        exact HK.out j hj (by have : j < 20 := hj; omega) e)
      clear hlt
      go_wp2_with fail
      go_loop [5] (fun i => ∃ k : Nat, k ≤ s.size ∧ i = .int .i64 k ∧ Hid (∀ (i : Nat) (h : i < s.size), i < k → okN i (s[i]'h).toNat)) (fun i => s.size - (intOf i).toNat)
      case atStart => exact ⟨0, Nat.zero_le _, rfl, Lib.hid (fun j _ h => by omega)⟩
      case round =>
        obtain ⟨p, hp, rfl, HO⟩ := hrel
        by_cases hlt : p < s.size
        · have hpi : (p : Int) < (s.size : Int) := by omega
          have hp0 : (0 : Int) ≤ (p : Int) := by omega
          obtain ⟨x, hx⟩ : ∃ x, (s[p]'hlt).toNat = x := ⟨_, rfl⟩
          have HN := Lib.hid (show okN p x → ∀ (i : Nat) (h : i < s.size), i < p + 1 → okN i (s[i]'h).toNat from fun hk i h hi => by
            rcases Nat.lt_or_ge i p with e | e
            · exact HO.out i h e
            · obtain rfl : i = p := by omega
              rw [hx]; exact hk)
          have HNO := Lib.hid (show ¬ okN p x → r = false from fun hk => HF.out fun h => hk (by have := h.2.2.2 p hlt; rw [hx] at this; exact this))
          by_cases hl : 97 ≤ x ∧ x ≤ 122
          · have d1 : decide ((97 : Int) ≤ (x : Int)) = true := by simp; omega
            have d2 : decide ((x : Int) ≤ 122) = true := by simp; omega
            have d3 : decide ((48 : Int) ≤ (x : Int)) = true := by simp; omega
            have d4 : decide ((x : Int) ≤ 57) = false := by simp; omega
            have d5 : ((x : Int) == 95) = false := by rw [beq_eq_false_iff_ne]; omega
            have HN2 := Lib.hid (HN.out (.inl hl))
            clear hl
            go_wp2_with fail
            go_round
            case rel => exact ⟨p + 1, by omega, by go_num, HN2⟩
            case measure => simp [intOf]; omega
          · have hlet : ∃ d1 d2 : Bool, decide ((97 : Int) ≤ (x : Int)) = d1 ∧ decide ((x : Int) ≤ 122) = d2 ∧ (d1 && d2) = false := ⟨_, _, rfl, rfl, by simp; omega⟩
            by_cases hg : (48 ≤ x ∧ x ≤ 57) ∨ x = 95
            · have d1 : decide ((97 : Int) ≤ (x : Int)) = false := by simp; omega
              have d3 : decide ((48 : Int) ≤ (x : Int)) = true := by simp; omega
              by_cases hp0' : p = 0
              · have d6 : ((p : Int) == 0) = true := by rw [beq_iff_eq]; omega
                obtain rfl : r = false := HNO.out (fun h => by rcases h with h | ⟨h, _⟩ <;> omega)
                rcases hg with hg | hg
                · have d4 : decide ((x : Int) ≤ 57) = true := by simp; omega
                  clear hl hg hp0' hlet
                  go_wp2_with fail
                  go_ret
                  exact ⟨rfl, HB.out⟩
                · have d4 : decide ((x : Int) ≤ 57) = false := by simp; omega
                  have d5 : ((x : Int) == 95) = true := by rw [beq_iff_eq]; omega
                  clear hl hg hp0' hlet
                  go_wp2_with fail
                  go_ret
                  exact ⟨rfl, HB.out⟩
              · have d6 : ((p : Int) == 0) = false := by rw [beq_eq_false_iff_ne]; omega
                have HN2 := Lib.hid (HN.out (.inr ⟨by omega, hg⟩))
                rcases hg with hg | hg
                · have d4 : decide ((x : Int) ≤ 57) = true := by simp; omega
                  clear hl hg hp0' hlet
                  go_wp2_with fail
                  go_round
                  case rel => exact ⟨p + 1, by omega, by go_num, HN2⟩
                  case measure => simp [intOf]; omega
                · have d4 : decide ((x : Int) ≤ 57) = false := by simp; omega
                  have d5 : ((x : Int) == 95) = true := by rw [beq_iff_eq]; omega
                  clear hl hg hp0' hlet
                  go_wp2_with fail
                  go_round
                  case rel => exact ⟨p + 1, by omega, by go_num, HN2⟩
                  case measure => simp [intOf]; omega
            · obtain rfl : r = false := HNO.out (fun h => by rcases h with h | ⟨_, h⟩ <;> omega)
              have d5 : ((x : Int) == 95) = false := by rw [beq_eq_false_iff_ne]; omega
              by_cases hc1 : x < 48
              · have d1 : decide ((97 : Int) ≤ (x : Int)) = false := by simp; omega
                have d3 : decide ((48 : Int) ≤ (x : Int)) = false := by simp; omega
                clear hl hg hc1 hlet
                go_wp2_with fail
                go_ret
                exact ⟨rfl, HB.out⟩
              have d3 : decide ((48 : Int) ≤ (x : Int)) = true := by simp; omega
              have d4 : decide ((x : Int) ≤ 57) = false := by simp; omega
              by_cases hc2 : x < 97
              · have d1 : decide ((97 : Int) ≤ (x : Int)) = false := by simp; omega
                clear hl hg hc1 hc2 hlet
                go_wp2_with fail
                go_ret
                exact ⟨rfl, HB.out⟩
              · have d1 : decide ((97 : Int) ≤ (x : Int)) = true := by simp; omega
                have d2 : decide ((x : Int) ≤ 122) = false := by simp; omega
                clear hl hg hc1 hc2 hlet
                go_wp2_with fail
                go_ret
                exact ⟨rfl, HB.out⟩
        · have hge2 : ¬ (p : Int) < (s.size : Int) := by omega
          obtain ⟨z, hz⟩ : ∃ z, s.size = z := ⟨_, rfl⟩
          have HA := Lib.hid (show ∀ (i : Nat) (h : i < s.size), okN i (s[i]'h).toNat from fun i h => HO.out i h (by omega))
          by_cases h1 : z < 1
          · obtain rfl : r = false := HF.out fun h => by have := h.1; omega
            have d1 : decide ((1 : Int) ≤ (z : Int)) = false := by simp; omega
            have d0 : ¬ (1 : Int) ≤ (z : Int) := by omega
            clear hlt h1
            go_wp2_with fail
            go_ret
            exact ⟨rfl, HB.out⟩
          have d1 : decide ((1 : Int) ≤ (z : Int)) = true := by simp; omega
          by_cases h2 : 12 < z
          · obtain rfl : r = false := HF.out fun h => by have := h.2.1; omega
            have d2 : decide ((z : Int) ≤ 12) = false := by simp; omega
            clear hlt h1 h2
            go_wp2_with fail
            go_ret
            exact ⟨rfl, HB.out⟩
          · obtain rfl : r = true := HR.out.2 ⟨by omega, by omega, HW.out, HA.out⟩
            have d2 : decide ((z : Int) ≤ 12) = true := by simp; omega
            clear hlt h1 h2
            go_wp2_with fail
            go_ret
            exact ⟨rfl, HB.out⟩
set_option maxRecDepth 100000 in
set_option maxHeartbeats 4000000 in
theorem refvalue_any (s : ByteArray) (w : World) (hs : s.size ≤ 9223372036854775807) (r : Bool) (hr : r = true ↔ valP s) :
    Calls Try.prog 40 #[.string s] w fun e w' => e = .returned (.bool r) ∧ w = w' := by
  have HR := Lib.hid hr
  clear hr
  have HF := Lib.hid (show ¬ valP s → r = false from fun h => by
    cases r with
    | false => rfl
    | true => exact absurd (HR.out.1 rfl) h)
  go_enter Try.func40, Try.ntmps40
  go_wp2_with fail
  go_loop [3] (fun i => ∃ k : Nat, k ≤ s.size ∧ i = .int .i64 k ∧ Hid (∀ (i : Nat) (h : i < s.size), i < k → wrongV (s[i]'h).toNat = false)) (fun i => s.size - (intOf i).toNat)
  case atStart => exact ⟨0, Nat.zero_le _, rfl, Lib.hid (fun j _ h => by omega)⟩
  case round =>
    obtain ⟨p, hp, rfl, HO⟩ := hrel
    by_cases hlt : p < s.size
    · have hpi : (p : Int) < (s.size : Int) := by omega
      have hp0 : (0 : Int) ≤ (p : Int) := by omega
      obtain ⟨x, hx⟩ : ∃ x, (s[p]'hlt).toNat = x := ⟨_, rfl⟩
      have HNO := Lib.hid (show wrongV x = true → r = false from fun hk => HF.out fun h => by have := h.2 p hlt; rw [hx, hk] at this; cases this)
      by_cases h1 : x < 32
      · obtain rfl : r = false := HNO.out (by simp [wrongV]; omega)
        have d1 : decide ((x : Int) < 32) = true := by simp; omega
        clear h1
        go_wp2_with fail
        go_ret
        exact ⟨rfl, rfl⟩
      have d1 : decide ((x : Int) < 32) = false := by simp; omega
      by_cases h2 : 126 < x
      · obtain rfl : r = false := HNO.out (by simp [wrongV]; omega)
        have d2 : decide ((126 : Int) < (x : Int)) = true := by simp; omega
        clear h1 h2
        go_wp2_with fail
        go_ret
        exact ⟨rfl, rfl⟩
      have d2 : decide ((126 : Int) < (x : Int)) = false := by simp; omega
      by_cases h3 : x = 34
      · obtain rfl : r = false := HNO.out (by simp [wrongV]; omega)
        have d3 : ((x : Int) == 34) = true := by rw [beq_iff_eq]; omega
        clear h1 h2 h3
        go_wp2_with fail
        go_ret
        exact ⟨rfl, rfl⟩
      have d3 : ((x : Int) == 34) = false := by rw [beq_eq_false_iff_ne]; omega
      by_cases h4 : x = 92
      · obtain rfl : r = false := HNO.out (by simp [wrongV]; omega)
        have d4 : ((x : Int) == 92) = true := by rw [beq_iff_eq]; omega
        clear h1 h2 h3 h4
        go_wp2_with fail
        go_ret
        exact ⟨rfl, rfl⟩
      have d4 : ((x : Int) == 92) = false := by rw [beq_eq_false_iff_ne]; omega
      have HN2 := Lib.hid (show ∀ (i : Nat) (h : i < s.size), i < p + 1 → wrongV (s[i]'h).toNat = false from fun i h hi => by
        rcases Nat.lt_or_ge i p with e | e
        · exact HO.out i h e
        · obtain rfl : i = p := by omega
          rw [hx]; simp [wrongV]; omega)
      clear h1 h2 h3 h4
      go_wp2_with fail
      go_round
      case rel => exact ⟨p + 1, by omega, by go_num, HN2⟩
      case measure => simp [intOf]; omega
    · have hge2 : ¬ (p : Int) < (s.size : Int) := by omega
      obtain ⟨z, hz⟩ : ∃ z, s.size = z := ⟨_, rfl⟩
      have HA := Lib.hid (show valueP s from fun i h => HO.out i h (by omega))
      by_cases h1 : z ≤ 24
      · obtain rfl : r = true := HR.out.2 ⟨by omega, HA.out⟩
        have d2 : decide ((z : Int) ≤ 24) = true := by simp; omega
        clear hlt h1
        go_wp2_with fail
        go_ret
        exact ⟨rfl, rfl⟩
      · obtain rfl : r = false := HF.out fun h => by have := h.1; omega
        have d2 : decide ((z : Int) ≤ 24) = false := by simp; omega
        clear hlt h1
        go_wp2_with fail
        go_ret
        exact ⟨rfl, rfl⟩
end Go.Proofs.Ytlfhjjlgmhkepaa
