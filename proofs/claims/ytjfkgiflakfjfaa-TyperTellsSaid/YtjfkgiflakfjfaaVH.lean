/- Value. -/
import Derived.Test.YtjfkgiflakfjfaaFJ
namespace Go.Proofs.Ytjfkgiflakfjfaa
open Go.RowKit
set_option linter.unusedSimpArgs false
set_option linter.unusedVariables false
set_option maxRecDepth 100000 in
set_option maxHeartbeats 1000000 in
theorem wrong_any (x : Nat) (w : World) (r : Bool) (hr : r = wrongV x) : Calls Try.prog 63 #[.int .i32 x] w fun e w' => e = .returned (.bool r) ∧ w = w' := by
  by_cases h1 : x < 32
  · obtain rfl : r = true := by rw [hr]; simp [wrongV, h1]
    have d1 : decide ((x : Int) < 32) = true := by simp; omega
    clear hr h1
    go_enter Try.func63, Try.ntmps63
    go_wp2_with fail
    go_ret
    exact ⟨rfl, rfl⟩
  have d1 : decide ((x : Int) < 32) = false := by simp; omega
  by_cases h2 : 126 < x
  · obtain rfl : r = true := by rw [hr]; simp [wrongV, h2]
    have d2 : decide ((126 : Int) < (x : Int)) = true := by simp; omega
    clear hr h1 h2
    go_enter Try.func63, Try.ntmps63
    go_wp2_with fail
    go_ret
    exact ⟨rfl, rfl⟩
  have d2 : decide ((126 : Int) < (x : Int)) = false := by simp; omega
  by_cases h3 : x = 34
  · obtain rfl : r = true := by rw [hr]; simp [wrongV, h3]
    have d3 : ((x : Int) == 34) = true := by rw [beq_iff_eq]; omega
    clear hr h1 h2 h3
    go_enter Try.func63, Try.ntmps63
    go_wp2_with fail
    go_ret
    exact ⟨rfl, rfl⟩
  have d3 : ((x : Int) == 34) = false := by rw [beq_eq_false_iff_ne]; omega
  obtain ⟨q, hq⟩ : ∃ q : Bool, q = decide (x = 92) := ⟨_, rfl⟩
  obtain rfl : r = q := by rw [hr, hq]; simp [wrongV]; omega
  have d4 : ((x : Int) == 92) = r := by rw [hq, Bool.eq_iff_iff, beq_iff_eq, decide_eq_true_iff]; omega
  clear hr h1 h2 h3 hq
  go_enter Try.func63, Try.ntmps63
  go_wp2_with fail
  go_ret
  exact ⟨rfl, rfl⟩
set_option maxRecDepth 100000 in
set_option maxHeartbeats 4000000 in
theorem indexf_any (s : ByteArray) (w : World) (hs : s.size ≤ 9223372036854775807) :
    Calls Try.prog 68 #[.string s, .func (.func 63) #[] #[], .bool true] w fun e w' => (∃ v : Int, e = .returned (.int .i64 v) ∧ (valueP s → v = -1) ∧ (¬ valueP s → 0 ≤ v)) ∧ Below w.heap.size w w' := by
  go_enter Try.func68, Try.ntmps68
  go_wp2_with fail
  go_loopw [7] (fun v wr => ∃ pos : Nat, pos ≤ s.size ∧ wr = w.iter s pos ∧ Hid (∀ (i : Nat) (h : i < s.size), i < pos → wrongV (s[i]'h).toNat = false)) (fun _ wr => s.size - wr.iterPos w.heap.size)
  case atStart => exact ⟨0, by omega, rfl, Lib.hid (fun i _ h => by omega)⟩
  case round =>
    obtain ⟨pos, hps, rfl, HO⟩ := hrel
    by_cases hp : pos < s.size
    · by_cases ha : (s[pos]'hp).toNat < 128
      · obtain ⟨b, hb⟩ : ∃ b, b = (s[pos]'hp).toNat := ⟨_, rfl⟩
        have hnx : ∀ ty, (Instr.next (.pointer (some ⟨w.heap.size, 0, none⟩)) true ty).run Try.prog (w.iter s pos) = .ok (.tuple #[.bool true, .int .i64 pos, .int .i32 b]) (w.iter s (pos + 1)) := fun ty => by
          have h := run_next_any (P := Try.prog) w s pos ty hp
          rw [decode_ascii s pos hp ha, ← hb] at h; exact h
        have HB := Lib.hid hb
        clear ha hb
        obtain ⟨q, hq⟩ : ∃ q, q = wrongV b := ⟨_, rfl⟩
        go_wp2_with fail
        refine (wrong_any b _ q hq).mono ?_
        rintro e w1 ⟨rfl, rfl⟩
        cases q with
        | true =>
          have HW := Lib.hid (show ¬ valueP s from fun h => by have := h pos hp; rw [← HB.out, ← hq] at this; cases this)
          clear hq hnx
          go_wp2_with fail
          go_ret
          exact ⟨⟨pos, rfl, fun h => absurd h HW.out, fun _ => by omega⟩, bpush (Below.refl _ _) _⟩
        | false =>
          have HN := Lib.hid (show ∀ (i : Nat) (h : i < s.size), i < pos + 1 → wrongV (s[i]'h).toNat = false from fun i h hi => by
            rcases Nat.lt_or_ge i pos with e | e
            · exact HO.out i h e
            · obtain rfl : i = pos := by omega
              rw [← HB.out]; exact hq.symm)
          clear hq hnx
          go_wp2_with fail
          go_roundw
          case rel => exact ⟨pos + 1, by omega, rfl, HN⟩
          case measure => simp; omega
      · obtain ⟨hh1, _⟩ := decode_high s pos hp (by omega)
        have hnx : ∀ ty, (Instr.next (.pointer (some ⟨w.heap.size, 0, none⟩)) true ty).run Try.prog (w.iter s pos) = _ := fun ty => run_next_any (P := Try.prog) w s pos ty hp
        obtain ⟨b, hb⟩ : ∃ b, b = (Utf8.decode s pos).1 := ⟨_, rfl⟩
        obtain ⟨wd, hwd⟩ : ∃ wd, wd = (Utf8.decode s pos).2 := ⟨_, rfl⟩
        simp only [← hb, ← hwd] at hnx hh1
        have HW := Lib.hid (show ¬ valueP s from fun h => by
          have h1 := h pos hp
          simp [wrongV] at h1; omega)
        have HQ := Lib.hid (show true = wrongV b by simp [wrongV]; omega)
        clear hb hwd ha
        go_wp2_with fail
        refine (wrong_any b _ true HQ.out).mono ?_
        rintro e w1 ⟨rfl, rfl⟩
        clear hnx
        go_wp2_with fail
        go_ret
        exact ⟨⟨pos, rfl, fun h => absurd h HW.out, fun _ => by omega⟩, bpush (Below.refl _ _) _⟩
    · have hnx : ∀ ty, (Instr.next (.pointer (some ⟨w.heap.size, 0, none⟩)) true ty).run Try.prog (w.iter s pos) = _ := fun ty => run_next_end w s pos ty hp
      have HW := Lib.hid (show valueP s from fun i h => HO.out i h (by omega))
      clear hp
      go_wp2_with fail
      go_ret
      exact ⟨⟨-1, rfl, fun _ => rfl, fun h => absurd HW.out h⟩, bpush (Below.refl _ _) _⟩
set_option maxRecDepth 100000 in
set_option maxHeartbeats 1000000 in
theorem value_any (s : ByteArray) (w : World) (hs : s.size ≤ 9223372036854775807) (r : Bool) (hr : r = true ↔ s.size ≤ 24 ∧ valueP s) :
    Calls Try.prog 44 #[.string s] w fun e w' => e = .returned (.bool r) ∧ Below w.heap.size w w' := by
  have HR := Lib.hid hr
  obtain ⟨z, hz⟩ : ∃ z, z = s.size := ⟨_, rfl⟩
  have hz2 : s.size = z := hz.symm
  clear hz hr
  by_cases h24 : z ≤ 24
  · have d : decide ((z : Int) ≤ 24) = true := by simp; omega
    go_enter Try.func44, Try.ntmps44
    go_wp2_with fail
    go_enter Try.func64, Try.ntmps64
    go_wp2_with fail
    go_enter Try.func67, Try.ntmps67
    go_wp2_with fail
    refine (indexf_any s _ hs).mono ?_
    rintro e w1 ⟨⟨v, rfl, hv1, hv2⟩, hB⟩
    by_cases hV : valueP s
    · obtain rfl : v = -1 := hv1 hV
      obtain rfl : r = true := HR.out.2 ⟨by omega, hV⟩
      clear hv1 hv2 h24
      go_wp2_with fail
      go_ret
      exact ⟨rfl, hB⟩
    · have h0 := hv2 hV
      have d0 : decide (0 ≤ v) = true := by simpa using h0
      obtain rfl : r = false := by
        cases r with
        | false => rfl
        | true => exact absurd (HR.out.1 rfl).2 hV
      clear hv1 hv2 h24 hV
      go_wp2_with fail
      go_ret
      exact ⟨rfl, hB⟩
  · have d : decide ((z : Int) ≤ 24) = false := by simp; omega
    obtain rfl : r = false := by
      cases r with
      | false => rfl
      | true => have := (HR.out.1 rfl).1; omega
    clear h24
    go_enter Try.func44, Try.ntmps44
    go_wp2_with fail
    go_ret
    exact ⟨rfl, Below.refl _ _⟩
end Go.Proofs.Ytjfkgiflakfjfaa
