/- Name. -/
import Derived.Test.YtbecgknahhhfiaaE
import Derived.Laws.RangeString
import Derived.Laws.RangeAny
namespace Go.Proofs.Ytbecgknahhhfiaa
open Go.RowKit
set_option linter.unusedSimpArgs false
set_option linter.unusedVariables false
/-- May a byte stand in a name at a place? -/
def okN (i : Nat) (b : Nat) : Prop := (97 ≤ b ∧ b ≤ 122) ∨ (0 < i ∧ ((48 ≤ b ∧ b ≤ 57) ∨ b = 95))
def nameP (s : ByteArray) : Prop := 1 ≤ s.size ∧ s.size ≤ 12 ∧ s ∉ wordsL ∧ ∀ (i : Nat) (h : i < s.size), okN i (s[i]'h).toNat
set_option maxRecDepth 100000 in
set_option maxHeartbeats 4000000 in
theorem name_any (s : ByteArray) (w : World) (hs : s.size ≤ 9223372036854775807) (r : Bool) (hr : r = true ↔ nameP s) :
    Calls Try.prog 15 #[.string s] w fun e w' => e = .returned (.bool r) ∧ Below w.heap.size w w' := by
  have HR := Lib.hid hr
  clear hr
  by_cases h0 : s = ⟨#[]⟩
  · obtain rfl : r = false := by
      cases r with
      | false => rfl
      | true => have := (HR.out.1 rfl).1; rw [h0] at this; simp [ByteArray.size] at this
    subst h0
    go_enter Try.func15, Try.ntmps15
    go_wp2_with fail
    go_ret
    exact ⟨rfl, Below.refl _ _⟩
  have k0 : (s.toList == []) = false := str_ne_lit (l := []) h0
  obtain ⟨z, hz⟩ : ∃ z, z = s.size := ⟨_, rfl⟩
  have hz2 : s.size = z := hz.symm
  have hz1 : 1 ≤ z := by
    rcases Nat.eq_zero_or_pos s.size with h | h
    · exact absurd (by cases s with | mk d => simp [ByteArray.size] at h; rw [h]) h0
    · omega
  by_cases h12 : 12 < z
  · have hd : decide ((12 : Int) < (z : Int)) = true := by simp; omega
    obtain rfl : r = false := by
      cases r with
      | false => rfl
      | true => have := (HR.out.1 rfl).2.1; omega
    clear h0 hz h12
    go_enter Try.func15, Try.ntmps15
    go_wp2_with fail
    go_ret
    exact ⟨rfl, Below.refl _ _⟩
  have hd : decide ((12 : Int) < (z : Int)) = false := by simp; omega
  have h12' : z ≤ 12 := by omega
  obtain ⟨q, hq⟩ : ∃ q : Bool, q = true ↔ s ∈ wordsL := by
    by_cases h : s ∈ wordsL
    · exact ⟨true, by simp [h]⟩
    · exact ⟨false, by simp [h]⟩
  have HQ := Lib.hid hq
  clear h0 hz h12 hq
  go_enter Try.func15, Try.ntmps15
  go_wp2_with fail
  refine (reserved_any s _ q HQ.out).mono ?_
  rintro e w1 ⟨rfl, rfl⟩
  cases q with
  | true =>
    obtain rfl : r = false := by
      cases r with
      | false => rfl
      | true => exact absurd (HQ.out.1 rfl) (HR.out.1 rfl).2.2.1
    go_wp2_with fail
    go_ret
    exact ⟨rfl, Below.refl _ _⟩
  | false =>
    go_wp2_with fail
    go_loopw [3] (fun v wr => ∃ pos : Nat, pos ≤ s.size ∧ wr = w.iter s pos ∧ Hid (∀ (i : Nat) (h : i < s.size), i < pos → okN i (s[i]'h).toNat)) (fun _ wr => s.size - wr.iterPos w.heap.size)
    case atStart => exact ⟨0, by omega, rfl, Lib.hid (fun i _ h => by omega)⟩
    case round =>
      obtain ⟨pos, hps, rfl, HO⟩ := hrel
      by_cases hp : pos < s.size
      · by_cases ha : (s[pos]'hp).toNat < 128
        · obtain ⟨b, hb⟩ : ∃ b, b = (s[pos]'hp).toNat := ⟨_, rfl⟩
          have hnx : ∀ ty, (Instr.next (.pointer (some ⟨w.heap.size, 0, none⟩)) true ty).run Try.prog (w.iter s pos) = .ok (.tuple #[.bool true, .int .i64 pos, .int .i32 b]) (w.iter s (pos + 1)) := fun ty => by
            have h := run_next_any (P := Try.prog) w s pos ty hp
            rw [decode_ascii s pos hp ha, ← hb] at h; exact h
          have HB := Lib.hid hb
          have HN := Lib.hid (show okN pos b → ∀ (i : Nat) (h : i < s.size), i < pos + 1 → okN i (s[i]'h).toNat from fun hk i h hi => by
            rcases Nat.lt_or_ge i pos with e | e
            · exact HO.out i h e
            · obtain rfl : i = pos := by omega
              rw [← HB.out]; exact hk)
          have HNO := Lib.hid (show ¬ okN pos b → r = false from fun hk => by
            cases r with
            | false => rfl
            | true => exact absurd (by have := (HR.out.1 rfl).2.2.2 pos hp; rw [← HB.out] at this; exact this) hk)
          clear ha hb
          by_cases hl : 97 ≤ b ∧ b ≤ 122
          · have d1 : decide ((97 : Int) ≤ (b : Int)) = true := by simp; omega
            have d2 : decide ((b : Int) ≤ 122) = true := by simp; omega
            have HN2 := Lib.hid (HN.out (.inl hl))
            clear hl
            go_wp2_with fail
            go_roundw
            case rel => exact ⟨pos + 1, by omega, rfl, HN2⟩
            case measure => simp; omega
          · by_cases hg : (48 ≤ b ∧ b ≤ 57) ∨ b = 95
            · by_cases hp0 : pos = 0
              · have d6 : ((pos : Int) == 0) = true := by rw [beq_iff_eq]; omega
                obtain rfl : r = false := HNO.out (fun h => by rcases h with h | ⟨h, _⟩ <;> omega)
                rcases hg with hg | hg
                · have d1 : decide ((97 : Int) ≤ (b : Int)) = false := by simp; omega
                  have d3 : decide ((48 : Int) ≤ (b : Int)) = true := by simp; omega
                  have d4 : decide ((b : Int) ≤ 57) = true := by simp; omega
                  clear hl hg hp0
                  go_wp2_with fail
                  go_ret
                  exact ⟨rfl, bpush (Below.refl _ _) _⟩
                · have d1 : decide ((97 : Int) ≤ (b : Int)) = false := by simp; omega
                  have d3 : decide ((48 : Int) ≤ (b : Int)) = true := by simp; omega
                  have d4 : decide ((b : Int) ≤ 57) = false := by simp; omega
                  have d5 : ((b : Int) == 95) = true := by rw [beq_iff_eq]; omega
                  clear hl hg hp0
                  go_wp2_with fail
                  go_ret
                  exact ⟨rfl, bpush (Below.refl _ _) _⟩
              · have d6 : ((pos : Int) == 0) = false := by rw [beq_eq_false_iff_ne]; omega
                have HN2 := Lib.hid (HN.out (.inr ⟨by omega, hg⟩))
                rcases hg with hg | hg
                · have d1 : decide ((97 : Int) ≤ (b : Int)) = false := by simp; omega
                  have d3 : decide ((48 : Int) ≤ (b : Int)) = true := by simp; omega
                  have d4 : decide ((b : Int) ≤ 57) = true := by simp; omega
                  clear hl hg hp0
                  go_wp2_with fail
                  go_roundw
                  case rel => exact ⟨pos + 1, by omega, rfl, HN2⟩
                  case measure => simp; omega
                · have d1 : decide ((97 : Int) ≤ (b : Int)) = false := by simp; omega
                  have d3 : decide ((48 : Int) ≤ (b : Int)) = true := by simp; omega
                  have d4 : decide ((b : Int) ≤ 57) = false := by simp; omega
                  have d5 : ((b : Int) == 95) = true := by rw [beq_iff_eq]; omega
                  clear hl hg hp0
                  go_wp2_with fail
                  go_roundw
                  case rel => exact ⟨pos + 1, by omega, rfl, HN2⟩
                  case measure => simp; omega
            · obtain rfl : r = false := HNO.out (fun h => by rcases h with h | ⟨_, h⟩ <;> omega)
              by_cases hc1 : b < 48
              · have d1 : decide ((97 : Int) ≤ (b : Int)) = false := by simp; omega
                have d3 : decide ((48 : Int) ≤ (b : Int)) = false := by simp; omega
                have d5 : ((b : Int) == 95) = false := by rw [beq_eq_false_iff_ne]; omega
                clear hl hg hc1
                go_wp2_with fail
                go_ret
                exact ⟨rfl, bpush (Below.refl _ _) _⟩
              by_cases hc2 : b < 97
              · have d1 : decide ((97 : Int) ≤ (b : Int)) = false := by simp; omega
                have d3 : decide ((48 : Int) ≤ (b : Int)) = true := by simp; omega
                have d4 : decide ((b : Int) ≤ 57) = false := by simp; omega
                have d5 : ((b : Int) == 95) = false := by rw [beq_eq_false_iff_ne]; omega
                clear hl hg hc1 hc2
                go_wp2_with fail
                go_ret
                exact ⟨rfl, bpush (Below.refl _ _) _⟩
              · have d1 : decide ((97 : Int) ≤ (b : Int)) = true := by simp; omega
                have d2 : decide ((b : Int) ≤ 122) = false := by simp; omega
                have d3 : decide ((48 : Int) ≤ (b : Int)) = true := by simp; omega
                have d4 : decide ((b : Int) ≤ 57) = false := by simp; omega
                have d5 : ((b : Int) == 95) = false := by rw [beq_eq_false_iff_ne]; omega
                clear hl hg hc1 hc2
                go_wp2_with fail
                go_ret
                exact ⟨rfl, bpush (Below.refl _ _) _⟩
        · obtain ⟨hh1, _⟩ := decode_high s pos hp (by omega)
          have hnx : ∀ ty, (Instr.next (.pointer (some ⟨w.heap.size, 0, none⟩)) true ty).run Try.prog (w.iter s pos) = _ := fun ty => run_next_any (P := Try.prog) w s pos ty hp
          obtain ⟨b, hb⟩ : ∃ b, b = (Utf8.decode s pos).1 := ⟨_, rfl⟩
          obtain ⟨wd, hwd⟩ : ∃ wd, wd = (Utf8.decode s pos).2 := ⟨_, rfl⟩
          simp only [← hb, ← hwd] at hnx hh1
          obtain rfl : r = false := by
            cases r with
            | false => rfl
            | true =>
              have h := (HR.out.1 rfl).2.2.2 pos hp
              rcases h with h | ⟨_, h⟩ <;> omega
          have d1 : decide ((97 : Int) ≤ (b : Int)) = true := by simp; omega
          have d2 : decide ((b : Int) ≤ 122) = false := by simp; omega
          have d3 : decide ((48 : Int) ≤ (b : Int)) = true := by simp; omega
          have d4 : decide ((b : Int) ≤ 57) = false := by simp; omega
          have d5 : ((b : Int) == 95) = false := by rw [beq_eq_false_iff_ne]; omega
          clear hb hwd ha hh1
          go_wp2_with fail
          go_ret
          exact ⟨rfl, bpush (Below.refl _ _) _⟩
      · have hnx : ∀ ty, (Instr.next (.pointer (some ⟨w.heap.size, 0, none⟩)) true ty).run Try.prog (w.iter s pos) = _ := fun ty => run_next_end w s pos ty hp
        obtain rfl : r = true := HR.out.2 ⟨by omega, by omega, fun h => by have := HQ.out.2 h; simp at this, fun i h => HO.out i h (by omega)⟩
        clear hp
        go_wp2_with fail
        go_ret
        exact ⟨rfl, bpush (Below.refl _ _) _⟩
end Go.Proofs.Ytbecgknahhhfiaa
