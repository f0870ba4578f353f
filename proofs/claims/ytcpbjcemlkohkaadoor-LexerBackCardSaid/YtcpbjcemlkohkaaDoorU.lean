/- The document's Name and Value. -/
import Derived.Test.YtcpbjcemlkohkaaDoorM
namespace Go.Proofs.YtcpbjcemlkohkaaDoor
open Go.RowKit
set_option linter.unusedSimpArgs false
set_option linter.unusedVariables false
def WordsPost (w : World) (e : Ending) (w' : World) : Prop := ∃ b, e = .returned (.slice (some ⟨b, 0, none⟩) 20 20) ∧ Row w' (some ⟨b, 0, none⟩) (texts wordsL) ∧ Below w.heap.size w w'
set_option maxRecDepth 100000 in
set_option maxHeartbeats 4000000 in
theorem refvalue_any (s : ByteArray) (w : World) (hs : s.size ≤ 9223372036854775807) (r : Bool) (hr : r = true ↔ valP s) :
    Calls Tryd.prog 32 #[.string s] w fun e w' => e = .returned (.bool r) ∧ w = w' := by
  have HR := Lib.hid hr
  clear hr
  have HF := Lib.hid (show ¬ valP s → r = false from fun h => by
    cases r with
    | false => rfl
    | true => exact absurd (HR.out.1 rfl) h)
  go_enter Tryd.func32, Tryd.ntmps32
  go_wp2_with fail
  go_loop [3] (fun i => ∃ k : Nat, k ≤ s.size ∧ i = .int .i64 k ∧ Hid (∀ (i : Nat) (h : i < s.size), i < k → wrongV (s[i]'h).toNat = false)) (fun i => s.size - (intOf i).toNat)
  case atStart => exact ⟨0, Nat.zero_le _, rfl, Lib.hid (fun j _ h => by omega)⟩
  case round =>
    obtain ⟨p, hp, rfl, HO⟩ := hrel
    by_cases hlt : p < s.size
    · have hpi : (p : Int) < (s.size : Int) := by omega
      have hp0 : (0 : Int) ≤ (p : Int) := by omega
      obtain ⟨x, hx⟩ : ∃ x, (s[p]'hlt).toNat = x := ⟨_, rfl⟩
      have HNO := Lib.hid (show wrongV x = true → r = false from fun hk => HF.out fun h => by have := h.2 p hlt; rw [hx, hk] at this; cases this)
      by_cases h1 : x < 32
      · obtain rfl : r = false := HNO.out (by simp [wrongV]; omega)
        have d1 : decide ((x : Int) < 32) = true := by simp; omega
        clear h1
        go_wp2_with fail
        go_ret
        exact ⟨rfl, rfl⟩
      have d1 : decide ((x : Int) < 32) = false := by simp; omega
      by_cases h2 : 126 < x
      · obtain rfl : r = false := HNO.out (by simp [wrongV]; omega)
        have d2 : decide ((126 : Int) < (x : Int)) = true := by simp; omega
        clear h1 h2
        go_wp2_with fail
        go_ret
        exact ⟨rfl, rfl⟩
      have d2 : decide ((126 : Int) < (x : Int)) = false := by simp; omega
      by_cases h3 : x = 34
      · obtain rfl : r = false := HNO.out (by simp [wrongV]; omega)
        have d3 : ((x : Int) == 34) = true := by rw [beq_iff_eq]; omega
        clear h1 h2 h3
        go_wp2_with fail
        go_ret
        exact ⟨rfl, rfl⟩
      have d3 : ((x : Int) == 34) = false := by rw [beq_eq_false_iff_ne]; omega
      by_cases h4 : x = 92
      · obtain rfl : r = false := HNO.out (by simp [wrongV]; omega)
        have d4 : ((x : Int) == 92) = true := by rw [beq_iff_eq]; omega
        clear h1 h2 h3 h4
        go_wp2_with fail
        go_ret
        exact ⟨rfl, rfl⟩
      have d4 : ((x : Int) == 92) = false := by rw [beq_eq_false_iff_ne]; omega
      have HN2 := Lib.hid (show ∀ (i : Nat) (h : i < s.size), i < p + 1 → wrongV (s[i]'h).toNat = false from fun i h hi => by
        rcases Nat.lt_or_ge i p with e | e
        · exact HO.out i h e
        · obtain rfl : i = p := by omega
          rw [hx]; simp [wrongV]; omega)
      clear h1 h2 h3 h4
      go_wp2_with fail
      go_round
      case rel => exact ⟨p + 1, by omega, by go_num, HN2⟩
      case measure => simp [intOf]; omega
    · have hge2 : ¬ (p : Int) < (s.size : Int) := by omega
      obtain ⟨z, hz⟩ : ∃ z, s.size = z := ⟨_, rfl⟩
      have HA := Lib.hid (show valueP s from fun i h => HO.out i h (by omega))
      by_cases h1 : z ≤ 24
      · obtain rfl : r = true := HR.out.2 ⟨by omega, HA.out⟩
        have d2 : decide ((z : Int) ≤ 24) = true := by simp; omega
        clear hlt h1
        go_wp2_with fail
        go_ret
        exact ⟨rfl, rfl⟩
      · obtain rfl : r = false := HF.out fun h => by have := h.1; omega
        have d2 : decide ((z : Int) ≤ 24) = false := by simp; omega
        clear hlt h1
        go_wp2_with fail
        go_ret
        exact ⟨rfl, rfl⟩
end Go.Proofs.YtcpbjcemlkohkaaDoor
