import Derived.Test.YtlfhjjlgmhkepaaQC
namespace Go.Proofs.Ytlfhjjlgmhkepaa
open Go.RowKit
set_option linter.unusedSimpArgs false
/-- An agg: sum, least, greatest. -/
structure A3 where
  s : Int
  mn : Int
  mx : Int
def A3.zero : A3 := ⟨0, 0, 0⟩
def A3.right (a : A3) : Bool := rightB a.s a.mn a.mx
def oneA (n : Int) : A3 × Int := if fit1 n = true then (⟨n, n, n⟩, 0) else (A3.zero, 121)
def joinA (a b : A3) : A3 × Int := if a.right = true ∧ b.right = true then (if fit1 (a.s + b.s) = true then (⟨a.s + b.s, min a.mn b.mn, max a.mx b.mx⟩, 0) else (A3.zero, 121)) else (A3.zero, 1)
theorem joinA_no1 {a b : A3} (h : a.right = false) : joinA a b = (A3.zero, 1) := by simp [joinA, h]
theorem joinA_no2 {a b : A3} (h : b.right = false) : joinA a b = (A3.zero, 1) := by simp [joinA, h]
theorem joinA_over {a b : A3} (ha : a.right = true) (hb : b.right = true) (h : fit1 (a.s + b.s) = false) : joinA a b = (A3.zero, 121) := by simp [joinA, ha, hb, h]
theorem joinA_ok {a b : A3} (ha : a.right = true) (hb : b.right = true) (h : fit1 (a.s + b.s) = true) : joinA a b = (⟨a.s + b.s, min a.mn b.mn, max a.mx b.mx⟩, 0) := by simp [joinA, ha, hb, h]
theorem right_bd {a : A3} (h : a.right = true) : (-4611686018427387904 ≤ a.s ∧ a.s ≤ 4611686018427387904) ∧ (-4611686018427387904 ≤ a.mn ∧ a.mn ≤ 4611686018427387904) ∧ (-4611686018427387904 ≤ a.mx ∧ a.mx ≤ 4611686018427387904) ∧ a.mn ≤ a.mx := by
  simp only [A3.right, rightB, Bool.and_eq_true, fit1_iff, decide_eq_true_eq] at h
  exact ⟨h.1.1.1, h.1.1.2, h.1.2, h.2⟩
/-- What a call that answers an agg and an error answers. -/
def Ans (r : A3 × Int) (w : World) (e : Ending) (w' : World) : Prop :=
  e = .returned (.tuple #[.agg #[.int .i64 r.1.s, .int .i64 r.1.mn, .int .i64 r.1.mx], .int .i64 r.2]) ∧ Below w.heap.size w w'
theorem Ans.of {r r' : A3 × Int} {w : World} {e : Ending} {w' : World} (h : Ans r' w e w') (hr : r = r') : Ans r w e w' := by subst hr; exact h

set_option maxHeartbeats 400000 in
theorem join_no1 (a b : A3) (w : World) (h : a.right = false) :
    Calls Try.prog 47 #[.agg #[.int .i64 a.s, .int .i64 a.mn, .int .i64 a.mx], .agg #[.int .i64 b.s, .int .i64 b.mn, .int .i64 b.mx]] w (Ans (A3.zero, 1) w) := by
  have H := Lib.hid h
  clear h
  go_enter Try.func47, Try.ntmps47
  go_wp2_with fail
  refine (right_any _ _ _ _).mono ?_
  rintro e w1 ⟨rfl, hb⟩
  rw [show rightB a.s a.mn a.mx = false from H.out]
  obtain ⟨hc, hf⟩ := bcell hb
  have hz : w.heap.size + 1 + 1 < w1.heap.size := by have := hb.size; simp at this; omega
  have hz' : w.heap.size + 1 < w1.heap.size := by omega
  have hz'' : w.heap.size < w1.heap.size := by omega
  go_wp2
  exact bodyPost_ret (v := (.tuple #[.agg #[.int .i64 0, .int .i64 0, .int .i64 0], .int .i64 1])) (by simp [results, Try.results47, go_sem, hc]) rfl
    ⟨rfl, by repeat (first | exact Below.refl _ _ | refine bset ?_ (by omega) _ | refine bpush ?_ _ | refine bthen ?_ hb | refine bthen ?_ hb2)⟩
set_option maxHeartbeats 400000 in
theorem join_no2 (a b : A3) (w : World) (h : a.right = true) (h2 : b.right = false) :
    Calls Try.prog 47 #[.agg #[.int .i64 a.s, .int .i64 a.mn, .int .i64 a.mx], .agg #[.int .i64 b.s, .int .i64 b.mn, .int .i64 b.mx]] w (Ans (A3.zero, 1) w) := by
  have H2 := Lib.hid h2
  clear h2
  have H := Lib.hid h
  clear h
  go_enter Try.func47, Try.ntmps47
  go_wp2_with fail
  refine (right_any _ _ _ _).mono ?_
  rintro e w1 ⟨rfl, hb⟩
  rw [show rightB a.s a.mn a.mx = true from H.out]
  obtain ⟨hc, hf⟩ := bcell hb
  have hz : w.heap.size + 1 + 1 < w1.heap.size := by have := hb.size; simp at this; omega
  have hz' : w.heap.size + 1 < w1.heap.size := by omega
  have hz'' : w.heap.size < w1.heap.size := by omega
  go_wp2_with fail
  refine (right_any _ _ _ _).mono ?_
  rintro e w2 ⟨rfl, hb2⟩
  rw [show rightB b.s b.mn b.mx = false from H2.out]
  obtain ⟨hc2, hf2⟩ := bcell hb2
  have hz2 : w.heap.size + 1 + 1 < w2.heap.size := by have := hb2.size; omega
  go_wp2
  exact bodyPost_ret (v := (.tuple #[.agg #[.int .i64 0, .int .i64 0, .int .i64 0], .int .i64 1])) (by simp [results, Try.results47, go_sem, hc, hc2, hz, hz2]) rfl
    ⟨rfl, by repeat (first | exact Below.refl _ _ | refine bset ?_ (by omega) _ | refine bpush ?_ _ | refine bthen ?_ hb | refine bthen ?_ hb2)⟩
set_option maxHeartbeats 400000 in
theorem join_over1 (a b : A3) (w : World) (h : a.right = true) (h2 : b.right = true) (hp : 0 < b.s) (ho : 4611686018427387904 - b.s < a.s) :
    Calls Try.prog 47 #[.agg #[.int .i64 a.s, .int .i64 a.mn, .int .i64 a.mx], .agg #[.int .i64 b.s, .int .i64 b.mn, .int .i64 b.mx]] w (Ans (A3.zero, 121) w) := by
  have hba := right_bd h
  have hbb := right_bd h2
  obtain ⟨⟨a1, a2⟩, -, -, -⟩ := hba
  obtain ⟨⟨b1, b2⟩, -, -, -⟩ := hbb
  have H2 := Lib.hid h2
  clear h2
  have H := Lib.hid h
  clear h
  go_enter Try.func47, Try.ntmps47
  go_wp2_with fail
  refine (right_any _ _ _ _).mono ?_
  rintro e w1 ⟨rfl, hb⟩
  rw [show rightB a.s a.mn a.mx = true from H.out]
  obtain ⟨hc, hf⟩ := bcell hb
  have hz : w.heap.size + 1 + 1 < w1.heap.size := by have := hb.size; simp at this; omega
  have hz' : w.heap.size + 1 < w1.heap.size := by omega
  have hz'' : w.heap.size < w1.heap.size := by omega
  go_wp2_with fail
  refine (right_any _ _ _ _).mono ?_
  rintro e w2 ⟨rfl, hb2⟩
  rw [show rightB b.s b.mn b.mx = true from H2.out]
  obtain ⟨hc2, hf2⟩ := bcell hb2
  have hz2 : w.heap.size + 1 + 1 < w2.heap.size := by have := hb2.size; omega
  go_wp2
  exact bodyPost_ret (v := (.tuple #[.agg #[.int .i64 0, .int .i64 0, .int .i64 0], .int .i64 121])) (by simp [results, Try.results47, go_sem, hc, hc2, hz, hz2]) rfl
    ⟨rfl, by repeat (first | exact Below.refl _ _ | refine bset ?_ (by omega) _ | refine bpush ?_ _ | refine bthen ?_ hb | refine bthen ?_ hb2)⟩
set_option maxHeartbeats 400000 in
theorem join_over2 (a b : A3) (w : World) (h : a.right = true) (h2 : b.right = true) (hp : b.s < 0) (ho : a.s < -4611686018427387904 - b.s) :
    Calls Try.prog 47 #[.agg #[.int .i64 a.s, .int .i64 a.mn, .int .i64 a.mx], .agg #[.int .i64 b.s, .int .i64 b.mn, .int .i64 b.mx]] w (Ans (A3.zero, 121) w) := by
  have hba := right_bd h
  have hbb := right_bd h2
  obtain ⟨⟨a1, a2⟩, -, -, -⟩ := hba
  obtain ⟨⟨b1, b2⟩, -, -, -⟩ := hbb
  have H2 := Lib.hid h2
  clear h2
  have H := Lib.hid h
  clear h
  go_enter Try.func47, Try.ntmps47
  go_wp2_with fail
  refine (right_any _ _ _ _).mono ?_
  rintro e w1 ⟨rfl, hb⟩
  rw [show rightB a.s a.mn a.mx = true from H.out]
  obtain ⟨hc, hf⟩ := bcell hb
  have hz : w.heap.size + 1 + 1 < w1.heap.size := by have := hb.size; simp at this; omega
  have hz' : w.heap.size + 1 < w1.heap.size := by omega
  have hz'' : w.heap.size < w1.heap.size := by omega
  go_wp2_with fail
  refine (right_any _ _ _ _).mono ?_
  rintro e w2 ⟨rfl, hb2⟩
  rw [show rightB b.s b.mn b.mx = true from H2.out]
  obtain ⟨hc2, hf2⟩ := bcell hb2
  have hz2 : w.heap.size + 1 + 1 < w2.heap.size := by have := hb2.size; omega
  go_wp2
  exact bodyPost_ret (v := (.tuple #[.agg #[.int .i64 0, .int .i64 0, .int .i64 0], .int .i64 121])) (by simp [results, Try.results47, go_sem, hc, hc2, hz, hz2]) rfl
    ⟨rfl, by repeat (first | exact Below.refl _ _ | refine bset ?_ (by omega) _ | refine bpush ?_ _ | refine bthen ?_ hb | refine bthen ?_ hb2)⟩
set_option maxHeartbeats 400000 in
theorem join_ok1 (a b : A3) (w : World) (h : a.right = true) (h2 : b.right = true) (hp : 0 < b.s) (ho : a.s ≤ 4611686018427387904 - b.s) :
    Calls Try.prog 47 #[.agg #[.int .i64 a.s, .int .i64 a.mn, .int .i64 a.mx], .agg #[.int .i64 b.s, .int .i64 b.mn, .int .i64 b.mx]] w (Ans (⟨a.s + b.s, min a.mn b.mn, max a.mx b.mx⟩, 0) w) := by
  have hba := right_bd h
  have hbb := right_bd h2
  obtain ⟨⟨a1, a2⟩, -, -, -⟩ := hba
  obtain ⟨⟨b1, b2⟩, -, -, -⟩ := hbb
  have H2 := Lib.hid h2
  clear h2
  have H := Lib.hid h
  clear h
  go_enter Try.func47, Try.ntmps47
  go_wp2_with fail
  refine (right_any _ _ _ _).mono ?_
  rintro e w1 ⟨rfl, hb⟩
  rw [show rightB a.s a.mn a.mx = true from H.out]
  obtain ⟨hc, hf⟩ := bcell hb
  have hz : w.heap.size + 1 + 1 < w1.heap.size := by have := hb.size; simp at this; omega
  have hz' : w.heap.size + 1 < w1.heap.size := by omega
  have hz'' : w.heap.size < w1.heap.size := by omega
  go_wp2_with fail
  refine (right_any _ _ _ _).mono ?_
  rintro e w2 ⟨rfl, hb2⟩
  rw [show rightB b.s b.mn b.mx = true from H2.out]
  obtain ⟨hc2, hf2⟩ := bcell hb2
  have hz2 : w.heap.size + 1 + 1 < w2.heap.size := by have := hb2.size; omega
  go_wp2
  all_goals
    exact bodyPost_ret (v := (.tuple #[.agg #[.int .i64 (a.s + b.s), .int .i64 (min a.mn b.mn), .int .i64 (max a.mx b.mx)], .int .i64 0])) (by simp [results, Try.results47, go_sem, hc, hc2, hz, hz2] <;> omega) rfl
      ⟨rfl, by repeat (first | exact Below.refl _ _ | refine bset ?_ (by omega) _ | refine bpush ?_ _ | refine bthen ?_ hb | refine bthen ?_ hb2)⟩
set_option maxHeartbeats 400000 in
theorem join_ok2 (a b : A3) (w : World) (h : a.right = true) (h2 : b.right = true) (hp : b.s < 0) (ho : -4611686018427387904 - b.s ≤ a.s) :
    Calls Try.prog 47 #[.agg #[.int .i64 a.s, .int .i64 a.mn, .int .i64 a.mx], .agg #[.int .i64 b.s, .int .i64 b.mn, .int .i64 b.mx]] w (Ans (⟨a.s + b.s, min a.mn b.mn, max a.mx b.mx⟩, 0) w) := by
  have hba := right_bd h
  have hbb := right_bd h2
  obtain ⟨⟨a1, a2⟩, -, -, -⟩ := hba
  obtain ⟨⟨b1, b2⟩, -, -, -⟩ := hbb
  have H2 := Lib.hid h2
  clear h2
  have H := Lib.hid h
  clear h
  go_enter Try.func47, Try.ntmps47
  go_wp2_with fail
  refine (right_any _ _ _ _).mono ?_
  rintro e w1 ⟨rfl, hb⟩
  rw [show rightB a.s a.mn a.mx = true from H.out]
  obtain ⟨hc, hf⟩ := bcell hb
  have hz : w.heap.size + 1 + 1 < w1.heap.size := by have := hb.size; simp at this; omega
  have hz' : w.heap.size + 1 < w1.heap.size := by omega
  have hz'' : w.heap.size < w1.heap.size := by omega
  go_wp2_with fail
  refine (right_any _ _ _ _).mono ?_
  rintro e w2 ⟨rfl, hb2⟩
  rw [show rightB b.s b.mn b.mx = true from H2.out]
  obtain ⟨hc2, hf2⟩ := bcell hb2
  have hz2 : w.heap.size + 1 + 1 < w2.heap.size := by have := hb2.size; omega
  go_wp2
  all_goals
    exact bodyPost_ret (v := (.tuple #[.agg #[.int .i64 (a.s + b.s), .int .i64 (min a.mn b.mn), .int .i64 (max a.mx b.mx)], .int .i64 0])) (by simp [results, Try.results47, go_sem, hc, hc2, hz, hz2] <;> omega) rfl
      ⟨rfl, by repeat (first | exact Below.refl _ _ | refine bset ?_ (by omega) _ | refine bpush ?_ _ | refine bthen ?_ hb | refine bthen ?_ hb2)⟩
set_option maxHeartbeats 400000 in
theorem join_ok3 (a b : A3) (w : World) (h : a.right = true) (h2 : b.right = true) (hp : b.s = 0) :
    Calls Try.prog 47 #[.agg #[.int .i64 a.s, .int .i64 a.mn, .int .i64 a.mx], .agg #[.int .i64 b.s, .int .i64 b.mn, .int .i64 b.mx]] w (Ans (⟨a.s + b.s, min a.mn b.mn, max a.mx b.mx⟩, 0) w) := by
  have hba := right_bd h
  have hbb := right_bd h2
  obtain ⟨⟨a1, a2⟩, -, -, -⟩ := hba
  obtain ⟨⟨b1, b2⟩, -, -, -⟩ := hbb
  have H2 := Lib.hid h2
  clear h2
  have hp1 : ¬ 0 < b.s := by omega
  have hp2 : ¬ b.s < 0 := by omega
  clear hp
  have H := Lib.hid h
  clear h
  go_enter Try.func47, Try.ntmps47
  go_wp2_with fail
  refine (right_any _ _ _ _).mono ?_
  rintro e w1 ⟨rfl, hb⟩
  rw [show rightB a.s a.mn a.mx = true from H.out]
  obtain ⟨hc, hf⟩ := bcell hb
  have hz : w.heap.size + 1 + 1 < w1.heap.size := by have := hb.size; simp at this; omega
  have hz' : w.heap.size + 1 < w1.heap.size := by omega
  have hz'' : w.heap.size < w1.heap.size := by omega
  go_wp2_with fail
  refine (right_any _ _ _ _).mono ?_
  rintro e w2 ⟨rfl, hb2⟩
  rw [show rightB b.s b.mn b.mx = true from H2.out]
  obtain ⟨hc2, hf2⟩ := bcell hb2
  have hz2 : w.heap.size + 1 + 1 < w2.heap.size := by have := hb2.size; omega
  go_wp2
  all_goals
    exact bodyPost_ret (v := (.tuple #[.agg #[.int .i64 (a.s + b.s), .int .i64 (min a.mn b.mn), .int .i64 (max a.mx b.mx)], .int .i64 0])) (by simp [results, Try.results47, go_sem, hc, hc2, hz, hz2] <;> omega) rfl
      ⟨rfl, by repeat (first | exact Below.refl _ _ | refine bset ?_ (by omega) _ | refine bpush ?_ _ | refine bthen ?_ hb | refine bthen ?_ hb2)⟩
theorem ajoin_any (a b : A3) (w : World) :
    Calls Try.prog 47 #[.agg #[.int .i64 a.s, .int .i64 a.mn, .int .i64 a.mx], .agg #[.int .i64 b.s, .int .i64 b.mn, .int .i64 b.mx]] w (Ans (joinA a b) w) := by
  cases h : a.right
  · rw [joinA_no1 h]; exact join_no1 a b w h
  cases h2 : b.right
  · rw [joinA_no2 h2]; exact join_no2 a b w h h2
  have hba := right_bd h
  have hbb := right_bd h2
  obtain ⟨⟨a1, a2⟩, -, -, -⟩ := hba
  obtain ⟨⟨b1, b2⟩, -, -, -⟩ := hbb
  by_cases hp : 0 < b.s
  · by_cases ho : 4611686018427387904 - b.s < a.s
    · rw [joinA_over h h2 (fit1_hi (by omega))]; exact join_over1 a b w h h2 hp ho
    · rw [joinA_ok h h2 (fit1_in (by omega) (by omega))]; exact join_ok1 a b w h h2 hp (by omega)
  · by_cases hq : b.s < 0
    · by_cases ho : a.s < -4611686018427387904 - b.s
      · rw [joinA_over h h2 (fit1_lo (by omega))]; exact join_over2 a b w h h2 hq ho
      · rw [joinA_ok h h2 (fit1_in (by omega) (by omega))]; exact join_ok2 a b w h h2 hq (by omega)
    · rw [joinA_ok h h2 (fit1_in (by omega) (by omega))]; exact join_ok3 a b w h h2 (by omega)
end Go.Proofs.Ytlfhjjlgmhkepaa
