/- Metric (41), and the document's term (46) and metric (48). -/
import Derived.Test.YtgaallkdfcckpaaFF
namespace Go.Proofs.Ytgaallkdfcckpaa
open Go.RowKit Go.Maps Go.Lib
set_option linter.unusedSimpArgs false
set_option linter.unusedVariables false
def inT (L : List ByteArray) (s : ByteArray) : Bool := L.any fun x => decide (x = s)
theorem inT_iff {L : List ByteArray} {s : ByteArray} : inT L s = true ↔ s ∈ L := by simp [inT]
theorem first_mem {L : List ByteArray} {s : ByteArray} {o : Option Nat} (h : FirstAt L s o) : o.isSome = inT L s := by
  cases o with
  | none =>
    have : ¬ s ∈ L := fun hm => by
      obtain ⟨j, hj, e⟩ := List.getElem_of_mem hm
      exact h j hj e
    have h2 : inT L s = false := by rw [Bool.eq_false_iff]; intro e; exact this (inT_iff.1 e)
    rw [h2]; rfl
  | some i =>
    obtain ⟨hi, e, _⟩ := h
    have : s ∈ L := e ▸ List.getElem_mem hi
    rw [inT_iff.2 this]; rfl
def termB (fn : Int) (b : Bool) : Bool := decide (0 ≤ fn) && decide (fn ≤ 3) && (decide (fn = 0) == b)
set_option maxRecDepth 100000 in
set_option maxHeartbeats 8000000 in
theorem term_any (fn : Int) (s : ByteArray) (w : World) : Calls Try.prog 69 #[.agg #[.int .i64 fn, .string s]] w fun e w' => e = .returned (.bool (termB fn (decide (s = ⟨#[]⟩)))) ∧ Below w.heap.size w w' := by
  obtain ⟨oo, hoo⟩ : ∃ o, o = termB fn (decide (s = ⟨#[]⟩)) := ⟨_, rfl⟩
  rw [← hoo]
  have HOP := Lib.hid hoo
  obtain ⟨w1, hw1⟩ : ∃ w1, w1 = w.alloc (.cells #[.int .i64 fn, .string s] 63) := ⟨_, rfl⟩
  have HB := Lib.hid (show Below w.heap.size w w1 by rw [hw1]; exact bpush (Below.refl _ _) _)
  have hK : Blk w1 w.heap.size 63 #[.int .i64 fn, .string s] := by rw [hw1]; exact Blk.new _ _ _
  have c0 : w1.cell? ⟨w.heap.size, 0, none⟩ = some (.int .i64 fn) := by rw [hK.cell 0]; rfl
  have c1 : w1.cell? ⟨w.heap.size, 1, none⟩ = some (.string s) := by rw [hK.cell 1]; rfl
  have HW1 := Lib.hid hw1
  clear hw1 hK hoo
  go_enter Try.func69, Try.ntmps69
  go_upto_region 1 with fail
  rw [← HW1.out]
  by_cases h1 : 0 ≤ fn
  · by_cases h2 : fn ≤ 3
    · by_cases z : s = ⟨#[]⟩
      · by_cases h3 : fn = 0
        · subst h3
          go_wp2_with fail
          go_ret
          exact ⟨by rw [HOP.out, decide_eq_true z]; simp [termB, h1, h2]; try rfl, HB.out⟩
        · have h3b : (fn == 0) = false := by simp [h3]
          go_wp2_with fail
          go_ret
          exact ⟨by rw [HOP.out, decide_eq_true z]; simp [termB, h1, h2, h3, h3b]; try rfl, HB.out⟩
      · have y : ¬ s.toList = [] := by
          have := str_ne_lit (l := []) z
          simpa using this
        have v : (s.toList == []) = false := str_ne_lit (l := []) z
        by_cases h3 : fn = 0
        · subst h3
          go_wp2_with fail
          go_ret
          exact ⟨by rw [HOP.out, decide_eq_false z]; simp [termB, h1, h2, y, v]; try rfl, HB.out⟩
        · have h3b : (fn == 0) = false := by simp [h3]
          go_wp2_with fail
          go_ret
          exact ⟨by rw [HOP.out, decide_eq_false z]; simp [termB, h1, h2, h3, h3b, y, v]; try rfl, HB.out⟩
    · have HE := Lib.hid (show oo = false by rw [HOP.out]; simp [termB, h1, h2])
      go_wp2_with fail
      go_ret
      exact ⟨by rw [HE.out]; rfl, HB.out⟩
  · have HE := Lib.hid (show oo = false by rw [HOP.out]; simp [termB, h1])
    go_wp2_with fail
    go_ret
    exact ⟨by rw [HE.out]; rfl, HB.out⟩
set_option maxRecDepth 100000 in
set_option maxHeartbeats 8000000 in
theorem metric_any (A B : Option Addr) (n c m d : Nat) (L : List ByteArray) (fn : Int) (s : ByteArray) (w : World) (hA : Row w A (texts L)) (hz : n = L.length) (hn : n ≤ 9223372036854775807) :
    Calls Try.prog 71 #[.agg #[.slice B m d, .slice A n c], .agg #[.int .i64 fn, .string s]] w fun e w' => e = .returned (.bool (decide (fn = 0) || inT L s)) ∧ Below w.heap.size w w' := by
  obtain ⟨oo, hoo⟩ : ∃ o, o = (decide (fn = 0) || inT L s) := ⟨_, rfl⟩
  rw [← hoo]
  have HOP := Lib.hid hoo
  obtain ⟨w1, hw1⟩ : ∃ w1, w1 = (w.alloc (.cells #[.slice B m d, .slice A n c] 24)).alloc (.cells #[.int .i64 fn, .string s] 63) := ⟨_, rfl⟩
  have hb : Below w.heap.size w w1 := by rw [hw1]; exact bpush (bpush (Below.refl _ _) _) _
  have HB := Lib.hid hb
  have c0 : w1.cell? ⟨w.heap.size, 1, none⟩ = some (.slice A n c) := by
    rw [hw1]
    exact cell_on (W := w.alloc (.cells #[.slice B m d, .slice A n c] 24)) (bpush (Below.refl _ _) _) (cell_made rfl rfl)
  have c1 : w1.cell? ⟨w.heap.size + 1, 1, none⟩ = some (.string s) := by rw [hw1]; exact cell_made (by simp) rfl
  have c2 : w1.cell? ⟨w.heap.size + 1, 0, none⟩ = some (.int .i64 fn) := by rw [hw1]; exact cell_made (by simp) rfl
  have HF := Lib.hid (find_any A n c L s w1 (hA.keep (Nat.le_refl _) hb) hz hn)
  have HW1 := Lib.hid hw1
  clear hw1 hoo hb hA hz
  go_enter Try.func71, Try.ntmps71
  go_upto_region 1 with fail
  rw [← HW1.out]
  go_upto_region 2 with (go_at_call 30; refine HF.out.mono ?_; rintro e w2 ⟨⟨o, ho, rfl⟩, rfl⟩; have HO := Lib.hid ho; clear ho)
  obtain ⟨b, hb⟩ : ∃ b, b = o.isSome := ⟨_, rfl⟩
  have HBO := Lib.hid (show b = inT L s by rw [hb]; exact first_mem HO.out)
  rw [← hb]
  clear hb
  by_cases h3 : fn = 0
  · subst h3
    go_wp2_with fail
    go_ret
    exact ⟨by rw [HOP.out]; simp; try rfl, HB.out⟩
  · have h3b : (fn == 0) = false := by simp [h3]
    cases b with
    | true =>
      go_wp2_with fail
      go_ret
      exact ⟨by rw [HOP.out, ← HBO.out]; simp [h3]; try rfl, HB.out⟩
    | false =>
      go_wp2_with fail
      go_ret
      exact ⟨by rw [HOP.out, ← HBO.out]; simp [h3]; try rfl, HB.out⟩
end Go.Proofs.Ytgaallkdfcckpaa
