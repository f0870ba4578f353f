import Derived.Test.YtlfhjjlgmhkepaaQE
namespace Go.Proofs.Ytlfhjjlgmhkepaa
open Go.RowKit
set_option linter.unusedSimpArgs false
set_option maxHeartbeats 400000 in
theorem rjoin_no1 (a b : A3) (w : World) (h : a.right = false) :
    Calls Try.prog 48 #[.agg #[.int .i64 a.s, .int .i64 a.mn, .int .i64 a.mx], .agg #[.int .i64 b.s, .int .i64 b.mn, .int .i64 b.mx]] w (Ans (A3.zero, 1) w) := by
  have H := Lib.hid h
  clear h
  go_enter Try.func48, Try.ntmps48
  go_wp2_with fail
  refine (rright_any _ _ _ _).mono ?_
  rintro e w1 ⟨rfl, hb⟩
  rw [show rightB a.s a.mn a.mx = false from H.out]
  obtain ⟨hc, hf⟩ := bcell hb
  have hz : w.heap.size + 1 + 1 < w1.heap.size := by have := hb.size; simp at this; omega
  have hz' : w.heap.size + 1 < w1.heap.size := by omega
  have hz'' : w.heap.size < w1.heap.size := by omega
  go_wp2_with fail
  refine (rright_any _ _ _ _).mono ?_
  rintro e w2 ⟨rfl, hb2⟩
  obtain ⟨q, hq⟩ : ∃ q, rightB b.s b.mn b.mx = q := ⟨_, rfl⟩
  rw [hq]
  clear hq
  obtain ⟨hc2, hf2⟩ := bcell hb2
  have hz2 : w.heap.size + 1 + 1 < w2.heap.size := by have := hb2.size; omega
  go_wp2
  exact bodyPost_ret (v := (.tuple #[.agg #[.int .i64 0, .int .i64 0, .int .i64 0], .int .i64 1])) (by simp [results, Try.results48, go_sem, hc, hc2, hz, hz2]) rfl
    ⟨rfl, by repeat (first | exact Below.refl _ _ | refine bset ?_ (by omega) _ | refine bpush ?_ _ | refine bthen ?_ hb | refine bthen ?_ hb2)⟩
set_option maxHeartbeats 400000 in
theorem rjoin_no2 (a b : A3) (w : World) (h : a.right = true) (h2 : b.right = false) :
    Calls Try.prog 48 #[.agg #[.int .i64 a.s, .int .i64 a.mn, .int .i64 a.mx], .agg #[.int .i64 b.s, .int .i64 b.mn, .int .i64 b.mx]] w (Ans (A3.zero, 1) w) := by
  have H2 := Lib.hid h2
  clear h2
  have H := Lib.hid h
  clear h
  go_enter Try.func48, Try.ntmps48
  go_wp2_with fail
  refine (rright_any _ _ _ _).mono ?_
  rintro e w1 ⟨rfl, hb⟩
  rw [show rightB a.s a.mn a.mx = true from H.out]
  obtain ⟨hc, hf⟩ := bcell hb
  have hz : w.heap.size + 1 + 1 < w1.heap.size := by have := hb.size; simp at this; omega
  have hz' : w.heap.size + 1 < w1.heap.size := by omega
  have hz'' : w.heap.size < w1.heap.size := by omega
  go_wp2_with fail
  refine (rright_any _ _ _ _).mono ?_
  rintro e w2 ⟨rfl, hb2⟩
  rw [show rightB b.s b.mn b.mx = false from H2.out]
  obtain ⟨hc2, hf2⟩ := bcell hb2
  have hz2 : w.heap.size + 1 + 1 < w2.heap.size := by have := hb2.size; omega
  go_wp2
  exact bodyPost_ret (v := (.tuple #[.agg #[.int .i64 0, .int .i64 0, .int .i64 0], .int .i64 1])) (by simp [results, Try.results48, go_sem, hc, hc2, hz, hz2]) rfl
    ⟨rfl, by repeat (first | exact Below.refl _ _ | refine bset ?_ (by omega) _ | refine bpush ?_ _ | refine bthen ?_ hb | refine bthen ?_ hb2)⟩
set_option maxHeartbeats 400000 in
theorem rjoin_over1 (a b : A3) (w : World) (h : a.right = true) (h2 : b.right = true) (hp : 0 < b.s) (ho : 4611686018427387904 - b.s < a.s) :
    Calls Try.prog 48 #[.agg #[.int .i64 a.s, .int .i64 a.mn, .int .i64 a.mx], .agg #[.int .i64 b.s, .int .i64 b.mn, .int .i64 b.mx]] w (Ans (A3.zero, 121) w) := by
  have hba := right_bd h
  have hbb := right_bd h2
  obtain ⟨⟨a1, a2⟩, -, -, -⟩ := hba
  obtain ⟨⟨b1, b2⟩, -, -, -⟩ := hbb
  have H2 := Lib.hid h2
  clear h2
  have H := Lib.hid h
  clear h
  go_enter Try.func48, Try.ntmps48
  go_wp2_with fail
  refine (rright_any _ _ _ _).mono ?_
  rintro e w1 ⟨rfl, hb⟩
  rw [show rightB a.s a.mn a.mx = true from H.out]
  obtain ⟨hc, hf⟩ := bcell hb
  have hz : w.heap.size + 1 + 1 < w1.heap.size := by have := hb.size; simp at this; omega
  have hz' : w.heap.size + 1 < w1.heap.size := by omega
  have hz'' : w.heap.size < w1.heap.size := by omega
  go_wp2_with fail
  refine (rright_any _ _ _ _).mono ?_
  rintro e w2 ⟨rfl, hb2⟩
  rw [show rightB b.s b.mn b.mx = true from H2.out]
  obtain ⟨hc2, hf2⟩ := bcell hb2
  have hz2 : w.heap.size + 1 + 1 < w2.heap.size := by have := hb2.size; omega
  go_wp2
  exact bodyPost_ret (v := (.tuple #[.agg #[.int .i64 0, .int .i64 0, .int .i64 0], .int .i64 121])) (by simp [results, Try.results48, go_sem, hc, hc2, hz, hz2]) rfl
    ⟨rfl, by repeat (first | exact Below.refl _ _ | refine bset ?_ (by omega) _ | refine bpush ?_ _ | refine bthen ?_ hb | refine bthen ?_ hb2)⟩
set_option maxHeartbeats 400000 in
theorem rjoin_over2 (a b : A3) (w : World) (h : a.right = true) (h2 : b.right = true) (hp : b.s < 0) (ho : a.s < -4611686018427387904 - b.s) :
    Calls Try.prog 48 #[.agg #[.int .i64 a.s, .int .i64 a.mn, .int .i64 a.mx], .agg #[.int .i64 b.s, .int .i64 b.mn, .int .i64 b.mx]] w (Ans (A3.zero, 121) w) := by
  have hba := right_bd h
  have hbb := right_bd h2
  obtain ⟨⟨a1, a2⟩, -, -, -⟩ := hba
  obtain ⟨⟨b1, b2⟩, -, -, -⟩ := hbb
  have H2 := Lib.hid h2
  clear h2
  have H := Lib.hid h
  clear h
  go_enter Try.func48, Try.ntmps48
  go_wp2_with fail
  refine (rright_any _ _ _ _).mono ?_
  rintro e w1 ⟨rfl, hb⟩
  rw [show rightB a.s a.mn a.mx = true from H.out]
  obtain ⟨hc, hf⟩ := bcell hb
  have hz : w.heap.size + 1 + 1 < w1.heap.size := by have := hb.size; simp at this; omega
  have hz' : w.heap.size + 1 < w1.heap.size := by omega
  have hz'' : w.heap.size < w1.heap.size := by omega
  go_wp2_with fail
  refine (rright_any _ _ _ _).mono ?_
  rintro e w2 ⟨rfl, hb2⟩
  rw [show rightB b.s b.mn b.mx = true from H2.out]
  obtain ⟨hc2, hf2⟩ := bcell hb2
  have hz2 : w.heap.size + 1 + 1 < w2.heap.size := by have := hb2.size; omega
  go_wp2
  exact bodyPost_ret (v := (.tuple #[.agg #[.int .i64 0, .int .i64 0, .int .i64 0], .int .i64 121])) (by simp [results, Try.results48, go_sem, hc, hc2, hz, hz2]) rfl
    ⟨rfl, by repeat (first | exact Below.refl _ _ | refine bset ?_ (by omega) _ | refine bpush ?_ _ | refine bthen ?_ hb | refine bthen ?_ hb2)⟩
set_option maxHeartbeats 400000 in
theorem rjoin_ok1 (a b : A3) (w : World) (h : a.right = true) (h2 : b.right = true) (hp : 0 < b.s) (ho : a.s ≤ 4611686018427387904 - b.s) :
    Calls Try.prog 48 #[.agg #[.int .i64 a.s, .int .i64 a.mn, .int .i64 a.mx], .agg #[.int .i64 b.s, .int .i64 b.mn, .int .i64 b.mx]] w (Ans (⟨a.s + b.s, min a.mn b.mn, max a.mx b.mx⟩, 0) w) := by
  have hba := right_bd h
  have hbb := right_bd h2
  obtain ⟨⟨a1, a2⟩, -, -, -⟩ := hba
  obtain ⟨⟨b1, b2⟩, -, -, -⟩ := hbb
  have H2 := Lib.hid h2
  clear h2
  have H := Lib.hid h
  clear h
  go_enter Try.func48, Try.ntmps48
  go_wp2_with fail
  refine (rright_any _ _ _ _).mono ?_
  rintro e w1 ⟨rfl, hb⟩
  rw [show rightB a.s a.mn a.mx = true from H.out]
  obtain ⟨hc, hf⟩ := bcell hb
  have hz : w.heap.size + 1 + 1 < w1.heap.size := by have := hb.size; simp at this; omega
  have hz' : w.heap.size + 1 < w1.heap.size := by omega
  have hz'' : w.heap.size < w1.heap.size := by omega
  go_wp2_with fail
  refine (rright_any _ _ _ _).mono ?_
  rintro e w2 ⟨rfl, hb2⟩
  rw [show rightB b.s b.mn b.mx = true from H2.out]
  obtain ⟨hc2, hf2⟩ := bcell hb2
  have hz2 : w.heap.size + 1 + 1 < w2.heap.size := by have := hb2.size; omega
  go_wp2
  all_goals
    exact bodyPost_ret (v := (.tuple #[.agg #[.int .i64 (a.s + b.s), .int .i64 (min a.mn b.mn), .int .i64 (max a.mx b.mx)], .int .i64 0])) (by simp [results, Try.results48, go_sem, hc, hc2, hz, hz2] <;> omega) rfl
      ⟨rfl, by repeat (first | exact Below.refl _ _ | refine bset ?_ (by omega) _ | refine bpush ?_ _ | refine bthen ?_ hb | refine bthen ?_ hb2)⟩
set_option maxHeartbeats 400000 in
theorem rjoin_ok2 (a b : A3) (w : World) (h : a.right = true) (h2 : b.right = true) (hp : b.s < 0) (ho : -4611686018427387904 - b.s ≤ a.s) :
    Calls Try.prog 48 #[.agg #[.int .i64 a.s, .int .i64 a.mn, .int .i64 a.mx], .agg #[.int .i64 b.s, .int .i64 b.mn, .int .i64 b.mx]] w (Ans (⟨a.s + b.s, min a.mn b.mn, max a.mx b.mx⟩, 0) w) := by
  have hba := right_bd h
  have hbb := right_bd h2
  obtain ⟨⟨a1, a2⟩, -, -, -⟩ := hba
  obtain ⟨⟨b1, b2⟩, -, -, -⟩ := hbb
  have H2 := Lib.hid h2
  clear h2
  have H := Lib.hid h
  clear h
  go_enter Try.func48, Try.ntmps48
  go_wp2_with fail
  refine (rright_any _ _ _ _).mono ?_
  rintro e w1 ⟨rfl, hb⟩
  rw [show rightB a.s a.mn a.mx = true from H.out]
  obtain ⟨hc, hf⟩ := bcell hb
  have hz : w.heap.size + 1 + 1 < w1.heap.size := by have := hb.size; simp at this; omega
  have hz' : w.heap.size + 1 < w1.heap.size := by omega
  have hz'' : w.heap.size < w1.heap.size := by omega
  go_wp2_with fail
  refine (rright_any _ _ _ _).mono ?_
  rintro e w2 ⟨rfl, hb2⟩
  rw [show rightB b.s b.mn b.mx = true from H2.out]
  obtain ⟨hc2, hf2⟩ := bcell hb2
  have hz2 : w.heap.size + 1 + 1 < w2.heap.size := by have := hb2.size; omega
  go_wp2
  all_goals
    exact bodyPost_ret (v := (.tuple #[.agg #[.int .i64 (a.s + b.s), .int .i64 (min a.mn b.mn), .int .i64 (max a.mx b.mx)], .int .i64 0])) (by simp [results, Try.results48, go_sem, hc, hc2, hz, hz2] <;> omega) rfl
      ⟨rfl, by repeat (first | exact Below.refl _ _ | refine bset ?_ (by omega) _ | refine bpush ?_ _ | refine bthen ?_ hb | refine bthen ?_ hb2)⟩
set_option maxHeartbeats 400000 in
theorem rjoin_ok3 (a b : A3) (w : World) (h : a.right = true) (h2 : b.right = true) (hp : b.s = 0) :
    Calls Try.prog 48 #[.agg #[.int .i64 a.s, .int .i64 a.mn, .int .i64 a.mx], .agg #[.int .i64 b.s, .int .i64 b.mn, .int .i64 b.mx]] w (Ans (⟨a.s + b.s, min a.mn b.mn, max a.mx b.mx⟩, 0) w) := by
  have hba := right_bd h
  have hbb := right_bd h2
  obtain ⟨⟨a1, a2⟩, -, -, -⟩ := hba
  obtain ⟨⟨b1, b2⟩, -, -, -⟩ := hbb
  have H2 := Lib.hid h2
  clear h2
  have hp1 : ¬ 0 < b.s := by omega
  have hp2 : ¬ b.s < 0 := by omega
  clear hp
  have H := Lib.hid h
  clear h
  go_enter Try.func48, Try.ntmps48
  go_wp2_with fail
  refine (rright_any _ _ _ _).mono ?_
  rintro e w1 ⟨rfl, hb⟩
  rw [show rightB a.s a.mn a.mx = true from H.out]
  obtain ⟨hc, hf⟩ := bcell hb
  have hz : w.heap.size + 1 + 1 < w1.heap.size := by have := hb.size; simp at this; omega
  have hz' : w.heap.size + 1 < w1.heap.size := by omega
  have hz'' : w.heap.size < w1.heap.size := by omega
  go_wp2_with fail
  refine (rright_any _ _ _ _).mono ?_
  rintro e w2 ⟨rfl, hb2⟩
  rw [show rightB b.s b.mn b.mx = true from H2.out]
  obtain ⟨hc2, hf2⟩ := bcell hb2
  have hz2 : w.heap.size + 1 + 1 < w2.heap.size := by have := hb2.size; omega
  go_wp2
  all_goals
    exact bodyPost_ret (v := (.tuple #[.agg #[.int .i64 (a.s + b.s), .int .i64 (min a.mn b.mn), .int .i64 (max a.mx b.mx)], .int .i64 0])) (by simp [results, Try.results48, go_sem, hc, hc2, hz, hz2] <;> omega) rfl
      ⟨rfl, by repeat (first | exact Below.refl _ _ | refine bset ?_ (by omega) _ | refine bpush ?_ _ | refine bthen ?_ hb | refine bthen ?_ hb2)⟩
theorem rjoin_any (a b : A3) (w : World) :
    Calls Try.prog 48 #[.agg #[.int .i64 a.s, .int .i64 a.mn, .int .i64 a.mx], .agg #[.int .i64 b.s, .int .i64 b.mn, .int .i64 b.mx]] w (Ans (joinA a b) w) := by
  cases h : a.right
  · rw [joinA_no1 h]; exact rjoin_no1 a b w h
  cases h2 : b.right
  · rw [joinA_no2 h2]; exact rjoin_no2 a b w h h2
  have hba := right_bd h
  have hbb := right_bd h2
  obtain ⟨⟨a1, a2⟩, -, -, -⟩ := hba
  obtain ⟨⟨b1, b2⟩, -, -, -⟩ := hbb
  by_cases hp : 0 < b.s
  · by_cases ho : 4611686018427387904 - b.s < a.s
    · rw [joinA_over h h2 (fit1_hi (by omega))]; exact rjoin_over1 a b w h h2 hp ho
    · rw [joinA_ok h h2 (fit1_in (by omega) (by omega))]; exact rjoin_ok1 a b w h h2 hp (by omega)
  · by_cases hq : b.s < 0
    · by_cases ho : a.s < -4611686018427387904 - b.s
      · rw [joinA_over h h2 (fit1_lo (by omega))]; exact rjoin_over2 a b w h h2 hq ho
      · rw [joinA_ok h h2 (fit1_in (by omega) (by omega))]; exact rjoin_ok2 a b w h h2 hq (by omega)
    · rw [joinA_ok h h2 (fit1_in (by omega) (by omega))]; exact rjoin_ok3 a b w h h2 (by omega)
end Go.Proofs.Ytlfhjjlgmhkepaa
