/- What the walks of this seat say of a slice of cells, and plain facts. QB QC QD QE QF -/
import Derived.Test.YtmmeekmiildliaaGreatDoorZ
import Derived.WalkKit
import Derived.ProofKit
import Derived.OpenShut
import Derived.Below
import Derived.Lib.Hide
import Derived.WalkLawsBesides
namespace Go.Proofs.YtmmeekmiildliaaGreatDoor
open Go.RowKit

def fit1 (n : Int) : Bool := decide (-4611686018427387904 ≤ n) && decide (n ≤ 4611686018427387904)
theorem fit1_lo {n : Int} (h : n < -4611686018427387904) : fit1 n = false := by unfold fit1; simp; omega
theorem fit1_hi {n : Int} (h : 4611686018427387904 < n) : fit1 n = false := by unfold fit1; simp; omega
theorem fit1_in {n : Int} (h : -4611686018427387904 ≤ n) (h' : n ≤ 4611686018427387904) : fit1 n = true := by unfold fit1; simp; omega
theorem fit1_iff {n : Int} : fit1 n = true ↔ -4611686018427387904 ≤ n ∧ n ≤ 4611686018427387904 := by unfold fit1; simp

theorem fits_no (zs : List Int) (k : Nat) (hk : k < zs.length) (h : fit1 zs[k] = false) : zs.all fit1 = false := by
  rw [List.all_eq_false]; exact ⟨zs[k], List.getElem_mem _, by simp [h]⟩
theorem fits_yes (zs : List Int) (h : ∀ j (hj : j < zs.length), fit1 zs[j] = true) : zs.all fit1 = true := by
  rw [List.all_eq_true]; intro x hx; obtain ⟨j, hj, rfl⟩ := List.getElem_of_mem hx; exact h j hj
end Go.Proofs.YtmmeekmiildliaaGreatDoor
namespace Go.Proofs.YtmmeekmiildliaaGreatDoor
open Go.RowKit
set_option maxHeartbeats 400000 in
theorem afits_any (A : Option Addr) (n c : Nat) (zs : List Int) (w : World) (hA : Row w A (zs.map (Value.int .i64))) (hn : n ≤ 9223372036854775807) (hz : n = zs.length) :
    Calls Tryz.prog 104 #[.slice A n c] w fun e w' => e = .returned (.bool (zs.all fit1)) ∧ w = w' := by
  have HZ := Lib.hid hz
  clear hz
  go_enter Tryz.func104, Tryz.ntmps104
  go_wp2
  go_loop [4, 7] (fun _ i => ∃ k : Nat, k ≤ n ∧ i = .int .i64 k ∧ ∀ j (hj : j < zs.length), j < k → fit1 zs[j] = true) (fun _ i => n - (intOf i).toNat)
  case atStart => exact ⟨0, Nat.zero_le _, rfl, fun j _ h => absurd h (by omega)⟩
  case round =>
    obtain ⟨k, hk, rfl, hall⟩ := hrel
    have Hall := Lib.hid hall
    clear hall
    by_cases hlt : k < n
    · have hkz : k < zs.length := by have := HZ.out; omega
      rcases hA with hA | ⟨b, off, rfl, hc⟩
      · simp at hA; subst hA; simp at hkz
      have hc2 := hc k (.int .i64 zs[k]) (by simp [hkz])
      clear hc
      obtain ⟨z, hz⟩ : ∃ z, z = zs[k] := ⟨_, rfl⟩
      rw [← hz] at hc2
      have Hz := Lib.hid hz
      clear hz
      by_cases h1 : z < -4611686018427387904
      · go_wp2
        go_ret
        exact ⟨ret_bool (fits_no zs k hkz (by rw [← Hz.out]; exact fit1_lo h1)).symm, rfl⟩
      · by_cases h2 : 4611686018427387904 < z
        · go_wp2
          go_ret
          exact ⟨ret_bool (fits_no zs k hkz (by rw [← Hz.out]; exact fit1_hi h2)).symm, rfl⟩
        · go_wp2
          go_round
          case rel =>
            refine ⟨k + 1, by omega, by go_num, fun j hj hjk => ?_⟩
            by_cases e : j = k
            · subst e; rw [← Hz.out]; exact fit1_in (by omega) (by omega)
            · exact Hall.out j hj (by omega)
          case measure => simp [intOf]; omega
    · go_wp2
      go_ret
      exact ⟨ret_bool (fits_yes zs (fun j hj => Hall.out j hj (by have := HZ.out; omega))).symm, rfl⟩
end Go.Proofs.YtmmeekmiildliaaGreatDoor
namespace Go.Proofs.YtmmeekmiildliaaGreatDoor
open Go.RowKit
def rightB (s mn mx : Int) : Bool := fit1 s && fit1 mn && fit1 mx && decide (mn ≤ mx)

set_option maxHeartbeats 400000 in
theorem right_any (s mn mx : Int) (w : World) :
    Calls Tryz.prog 109 #[.agg #[.int .i64 s, .int .i64 mn, .int .i64 mx]] w fun e w' => e = .returned (.bool (rightB s mn mx)) ∧ Below w.heap.size w w' := by
  obtain ⟨b, hb⟩ : ∃ b, b = (fit1 s && fit1 mn && fit1 mx) := ⟨_, rfl⟩
  have HB := Lib.hid hb
  clear hb
  cases b
  · go_enter Tryz.func109, Tryz.ntmps109
    go_wp2_with fail
    refine (afits_any _ 3 _ [s, mn, mx] _ ?_ (by omega) rfl).mono ?_
    · exact Row.made (by simp) rfl
    rintro e w' ⟨rfl, rfl⟩
    rw [show [s, mn, mx].all fit1 = false by simp only [List.all_cons, List.all_nil, Bool.and_true]; rw [HB.out, Bool.and_assoc]]
    go_wp2
    go_ret
    exact ⟨ret_bool (by simp [rightB, ← HB.out]), ((Below.refl _ _).alloc (Nat.le_refl _) _).alloc (by simp) _⟩
  · go_enter Tryz.func109, Tryz.ntmps109
    go_wp2_with fail
    refine (afits_any _ 3 _ [s, mn, mx] _ ?_ (by omega) rfl).mono ?_
    · exact Row.made (by simp) rfl
    rintro e w' ⟨rfl, rfl⟩
    rw [show [s, mn, mx].all fit1 = true by simp only [List.all_cons, List.all_nil, Bool.and_true]; rw [HB.out, Bool.and_assoc]]
    go_wp2
    go_ret
    exact ⟨ret_bool (by simp [rightB, ← HB.out]), ((Below.refl _ _).alloc (Nat.le_refl _) _).alloc (by simp) _⟩
end Go.Proofs.YtmmeekmiildliaaGreatDoor
namespace Go.Proofs.YtmmeekmiildliaaGreatDoor
open Go.RowKit
set_option linter.unusedSimpArgs false
/-- An agg: sum, least, greatest. -/
structure A3 where
  s : Int
  mn : Int
  mx : Int
def A3.zero : A3 := ⟨0, 0, 0⟩
def A3.right (a : A3) : Bool := rightB a.s a.mn a.mx
def oneA (n : Int) : A3 × Int := if fit1 n = true then (⟨n, n, n⟩, 0) else (A3.zero, 121)
def joinA (a b : A3) : A3 × Int := if a.right = true ∧ b.right = true then (if fit1 (a.s + b.s) = true then (⟨a.s + b.s, min a.mn b.mn, max a.mx b.mx⟩, 0) else (A3.zero, 121)) else (A3.zero, 1)
theorem joinA_no1 {a b : A3} (h : a.right = false) : joinA a b = (A3.zero, 1) := by simp [joinA, h]
theorem joinA_no2 {a b : A3} (h : b.right = false) : joinA a b = (A3.zero, 1) := by simp [joinA, h]
theorem joinA_over {a b : A3} (ha : a.right = true) (hb : b.right = true) (h : fit1 (a.s + b.s) = false) : joinA a b = (A3.zero, 121) := by simp [joinA, ha, hb, h]
theorem joinA_ok {a b : A3} (ha : a.right = true) (hb : b.right = true) (h : fit1 (a.s + b.s) = true) : joinA a b = (⟨a.s + b.s, min a.mn b.mn, max a.mx b.mx⟩, 0) := by simp [joinA, ha, hb, h]
theorem right_bd {a : A3} (h : a.right = true) : (-4611686018427387904 ≤ a.s ∧ a.s ≤ 4611686018427387904) ∧ (-4611686018427387904 ≤ a.mn ∧ a.mn ≤ 4611686018427387904) ∧ (-4611686018427387904 ≤ a.mx ∧ a.mx ≤ 4611686018427387904) ∧ a.mn ≤ a.mx := by
  simp only [A3.right, rightB, Bool.and_eq_true, fit1_iff, decide_eq_true_eq] at h
  exact ⟨h.1.1.1, h.1.1.2, h.1.2, h.2⟩
/-- What a call that answers an agg and an error answers. -/
def Ans (r : A3 × Int) (w : World) (e : Ending) (w' : World) : Prop :=
  e = .returned (.tuple #[.agg #[.int .i64 r.1.s, .int .i64 r.1.mn, .int .i64 r.1.mx], .int .i64 r.2]) ∧ Below w.heap.size w w'
theorem Ans.of {r r' : A3 × Int} {w : World} {e : Ending} {w' : World} (h : Ans r' w e w') (hr : r = r') : Ans r w e w' := by subst hr; exact h

set_option maxHeartbeats 400000 in
theorem join_no1 (a b : A3) (w : World) (h : a.right = false) :
    Calls Tryz.prog 80 #[.agg #[.int .i64 a.s, .int .i64 a.mn, .int .i64 a.mx], .agg #[.int .i64 b.s, .int .i64 b.mn, .int .i64 b.mx]] w (Ans (A3.zero, 1) w) := by
  have H := Lib.hid h
  clear h
  go_enter Tryz.func80, Tryz.ntmps80
  go_wp2_with fail
  refine (right_any _ _ _ _).mono ?_
  rintro e w1 ⟨rfl, hb⟩
  rw [show rightB a.s a.mn a.mx = false from H.out]
  obtain ⟨hc, hf⟩ := bcell hb
  have hz : w.heap.size + 1 + 1 < w1.heap.size := by have := hb.size; simp at this; omega
  have hz' : w.heap.size + 1 < w1.heap.size := by omega
  have hz'' : w.heap.size < w1.heap.size := by omega
  go_wp2
  exact bodyPost_ret (v := (.tuple #[.agg #[.int .i64 0, .int .i64 0, .int .i64 0], .int .i64 1])) (by simp [results, Tryz.results80, go_sem, hc]) rfl
    ⟨rfl, by repeat (first | exact Below.refl _ _ | refine bset ?_ (by omega) _ | refine bpush ?_ _ | refine bthen ?_ hb | refine bthen ?_ hb2)⟩
set_option maxHeartbeats 400000 in
theorem join_no2 (a b : A3) (w : World) (h : a.right = true) (h2 : b.right = false) :
    Calls Tryz.prog 80 #[.agg #[.int .i64 a.s, .int .i64 a.mn, .int .i64 a.mx], .agg #[.int .i64 b.s, .int .i64 b.mn, .int .i64 b.mx]] w (Ans (A3.zero, 1) w) := by
  have H2 := Lib.hid h2
  clear h2
  have H := Lib.hid h
  clear h
  go_enter Tryz.func80, Tryz.ntmps80
  go_wp2_with fail
  refine (right_any _ _ _ _).mono ?_
  rintro e w1 ⟨rfl, hb⟩
  rw [show rightB a.s a.mn a.mx = true from H.out]
  obtain ⟨hc, hf⟩ := bcell hb
  have hz : w.heap.size + 1 + 1 < w1.heap.size := by have := hb.size; simp at this; omega
  have hz' : w.heap.size + 1 < w1.heap.size := by omega
  have hz'' : w.heap.size < w1.heap.size := by omega
  go_wp2_with fail
  refine (right_any _ _ _ _).mono ?_
  rintro e w2 ⟨rfl, hb2⟩
  rw [show rightB b.s b.mn b.mx = false from H2.out]
  obtain ⟨hc2, hf2⟩ := bcell hb2
  have hz2 : w.heap.size + 1 + 1 < w2.heap.size := by have := hb2.size; omega
  go_wp2
  exact bodyPost_ret (v := (.tuple #[.agg #[.int .i64 0, .int .i64 0, .int .i64 0], .int .i64 1])) (by simp [results, Tryz.results80, go_sem, hc, hc2, hz, hz2]) rfl
    ⟨rfl, by repeat (first | exact Below.refl _ _ | refine bset ?_ (by omega) _ | refine bpush ?_ _ | refine bthen ?_ hb | refine bthen ?_ hb2)⟩
set_option maxHeartbeats 400000 in
theorem join_over1 (a b : A3) (w : World) (h : a.right = true) (h2 : b.right = true) (hp : 0 < b.s) (ho : 4611686018427387904 - b.s < a.s) :
    Calls Tryz.prog 80 #[.agg #[.int .i64 a.s, .int .i64 a.mn, .int .i64 a.mx], .agg #[.int .i64 b.s, .int .i64 b.mn, .int .i64 b.mx]] w (Ans (A3.zero, 121) w) := by
  have hba := right_bd h
  have hbb := right_bd h2
  obtain ⟨⟨a1, a2⟩, -, -, -⟩ := hba
  obtain ⟨⟨b1, b2⟩, -, -, -⟩ := hbb
  have H2 := Lib.hid h2
  clear h2
  have H := Lib.hid h
  clear h
  go_enter Tryz.func80, Tryz.ntmps80
  go_wp2_with fail
  refine (right_any _ _ _ _).mono ?_
  rintro e w1 ⟨rfl, hb⟩
  rw [show rightB a.s a.mn a.mx = true from H.out]
  obtain ⟨hc, hf⟩ := bcell hb
  have hz : w.heap.size + 1 + 1 < w1.heap.size := by have := hb.size; simp at this; omega
  have hz' : w.heap.size + 1 < w1.heap.size := by omega
  have hz'' : w.heap.size < w1.heap.size := by omega
  go_wp2_with fail
  refine (right_any _ _ _ _).mono ?_
  rintro e w2 ⟨rfl, hb2⟩
  rw [show rightB b.s b.mn b.mx = true from H2.out]
  obtain ⟨hc2, hf2⟩ := bcell hb2
  have hz2 : w.heap.size + 1 + 1 < w2.heap.size := by have := hb2.size; omega
  go_wp2
  exact bodyPost_ret (v := (.tuple #[.agg #[.int .i64 0, .int .i64 0, .int .i64 0], .int .i64 121])) (by simp [results, Tryz.results80, go_sem, hc, hc2, hz, hz2]) rfl
    ⟨rfl, by repeat (first | exact Below.refl _ _ | refine bset ?_ (by omega) _ | refine bpush ?_ _ | refine bthen ?_ hb | refine bthen ?_ hb2)⟩
set_option maxHeartbeats 400000 in
theorem join_over2 (a b : A3) (w : World) (h : a.right = true) (h2 : b.right = true) (hp : b.s < 0) (ho : a.s < -4611686018427387904 - b.s) :
    Calls Tryz.prog 80 #[.agg #[.int .i64 a.s, .int .i64 a.mn, .int .i64 a.mx], .agg #[.int .i64 b.s, .int .i64 b.mn, .int .i64 b.mx]] w (Ans (A3.zero, 121) w) := by
  have hba := right_bd h
  have hbb := right_bd h2
  obtain ⟨⟨a1, a2⟩, -, -, -⟩ := hba
  obtain ⟨⟨b1, b2⟩, -, -, -⟩ := hbb
  have H2 := Lib.hid h2
  clear h2
  have H := Lib.hid h
  clear h
  go_enter Tryz.func80, Tryz.ntmps80
  go_wp2_with fail
  refine (right_any _ _ _ _).mono ?_
  rintro e w1 ⟨rfl, hb⟩
  rw [show rightB a.s a.mn a.mx = true from H.out]
  obtain ⟨hc, hf⟩ := bcell hb
  have hz : w.heap.size + 1 + 1 < w1.heap.size := by have := hb.size; simp at this; omega
  have hz' : w.heap.size + 1 < w1.heap.size := by omega
  have hz'' : w.heap.size < w1.heap.size := by omega
  go_wp2_with fail
  refine (right_any _ _ _ _).mono ?_
  rintro e w2 ⟨rfl, hb2⟩
  rw [show rightB b.s b.mn b.mx = true from H2.out]
  obtain ⟨hc2, hf2⟩ := bcell hb2
  have hz2 : w.heap.size + 1 + 1 < w2.heap.size := by have := hb2.size; omega
  go_wp2
  exact bodyPost_ret (v := (.tuple #[.agg #[.int .i64 0, .int .i64 0, .int .i64 0], .int .i64 121])) (by simp [results, Tryz.results80, go_sem, hc, hc2, hz, hz2]) rfl
    ⟨rfl, by repeat (first | exact Below.refl _ _ | refine bset ?_ (by omega) _ | refine bpush ?_ _ | refine bthen ?_ hb | refine bthen ?_ hb2)⟩
set_option maxHeartbeats 400000 in
theorem join_ok1 (a b : A3) (w : World) (h : a.right = true) (h2 : b.right = true) (hp : 0 < b.s) (ho : a.s ≤ 4611686018427387904 - b.s) :
    Calls Tryz.prog 80 #[.agg #[.int .i64 a.s, .int .i64 a.mn, .int .i64 a.mx], .agg #[.int .i64 b.s, .int .i64 b.mn, .int .i64 b.mx]] w (Ans (⟨a.s + b.s, min a.mn b.mn, max a.mx b.mx⟩, 0) w) := by
  have hba := right_bd h
  have hbb := right_bd h2
  obtain ⟨⟨a1, a2⟩, -, -, -⟩ := hba
  obtain ⟨⟨b1, b2⟩, -, -, -⟩ := hbb
  have H2 := Lib.hid h2
  clear h2
  have H := Lib.hid h
  clear h
  go_enter Tryz.func80, Tryz.ntmps80
  go_wp2_with fail
  refine (right_any _ _ _ _).mono ?_
  rintro e w1 ⟨rfl, hb⟩
  rw [show rightB a.s a.mn a.mx = true from H.out]
  obtain ⟨hc, hf⟩ := bcell hb
  have hz : w.heap.size + 1 + 1 < w1.heap.size := by have := hb.size; simp at this; omega
  have hz' : w.heap.size + 1 < w1.heap.size := by omega
  have hz'' : w.heap.size < w1.heap.size := by omega
  go_wp2_with fail
  refine (right_any _ _ _ _).mono ?_
  rintro e w2 ⟨rfl, hb2⟩
  rw [show rightB b.s b.mn b.mx = true from H2.out]
  obtain ⟨hc2, hf2⟩ := bcell hb2
  have hz2 : w.heap.size + 1 + 1 < w2.heap.size := by have := hb2.size; omega
  go_wp2
  all_goals
    exact bodyPost_ret (v := (.tuple #[.agg #[.int .i64 (a.s + b.s), .int .i64 (min a.mn b.mn), .int .i64 (max a.mx b.mx)], .int .i64 0])) (by simp [results, Tryz.results80, go_sem, hc, hc2, hz, hz2] <;> omega) rfl
      ⟨rfl, by repeat (first | exact Below.refl _ _ | refine bset ?_ (by omega) _ | refine bpush ?_ _ | refine bthen ?_ hb | refine bthen ?_ hb2)⟩
set_option maxHeartbeats 400000 in
theorem join_ok2 (a b : A3) (w : World) (h : a.right = true) (h2 : b.right = true) (hp : b.s < 0) (ho : -4611686018427387904 - b.s ≤ a.s) :
    Calls Tryz.prog 80 #[.agg #[.int .i64 a.s, .int .i64 a.mn, .int .i64 a.mx], .agg #[.int .i64 b.s, .int .i64 b.mn, .int .i64 b.mx]] w (Ans (⟨a.s + b.s, min a.mn b.mn, max a.mx b.mx⟩, 0) w) := by
  have hba := right_bd h
  have hbb := right_bd h2
  obtain ⟨⟨a1, a2⟩, -, -, -⟩ := hba
  obtain ⟨⟨b1, b2⟩, -, -, -⟩ := hbb
  have H2 := Lib.hid h2
  clear h2
  have H := Lib.hid h
  clear h
  go_enter Tryz.func80, Tryz.ntmps80
  go_wp2_with fail
  refine (right_any _ _ _ _).mono ?_
  rintro e w1 ⟨rfl, hb⟩
  rw [show rightB a.s a.mn a.mx = true from H.out]
  obtain ⟨hc, hf⟩ := bcell hb
  have hz : w.heap.size + 1 + 1 < w1.heap.size := by have := hb.size; simp at this; omega
  have hz' : w.heap.size + 1 < w1.heap.size := by omega
  have hz'' : w.heap.size < w1.heap.size := by omega
  go_wp2_with fail
  refine (right_any _ _ _ _).mono ?_
  rintro e w2 ⟨rfl, hb2⟩
  rw [show rightB b.s b.mn b.mx = true from H2.out]
  obtain ⟨hc2, hf2⟩ := bcell hb2
  have hz2 : w.heap.size + 1 + 1 < w2.heap.size := by have := hb2.size; omega
  go_wp2
  all_goals
    exact bodyPost_ret (v := (.tuple #[.agg #[.int .i64 (a.s + b.s), .int .i64 (min a.mn b.mn), .int .i64 (max a.mx b.mx)], .int .i64 0])) (by simp [results, Tryz.results80, go_sem, hc, hc2, hz, hz2] <;> omega) rfl
      ⟨rfl, by repeat (first | exact Below.refl _ _ | refine bset ?_ (by omega) _ | refine bpush ?_ _ | refine bthen ?_ hb | refine bthen ?_ hb2)⟩
set_option maxHeartbeats 400000 in
theorem join_ok3 (a b : A3) (w : World) (h : a.right = true) (h2 : b.right = true) (hp : b.s = 0) :
    Calls Tryz.prog 80 #[.agg #[.int .i64 a.s, .int .i64 a.mn, .int .i64 a.mx], .agg #[.int .i64 b.s, .int .i64 b.mn, .int .i64 b.mx]] w (Ans (⟨a.s + b.s, min a.mn b.mn, max a.mx b.mx⟩, 0) w) := by
  have hba := right_bd h
  have hbb := right_bd h2
  obtain ⟨⟨a1, a2⟩, -, -, -⟩ := hba
  obtain ⟨⟨b1, b2⟩, -, -, -⟩ := hbb
  have H2 := Lib.hid h2
  clear h2
  have hp1 : ¬ 0 < b.s := by omega
  have hp2 : ¬ b.s < 0 := by omega
  clear hp
  have H := Lib.hid h
  clear h
  go_enter Tryz.func80, Tryz.ntmps80
  go_wp2_with fail
  refine (right_any _ _ _ _).mono ?_
  rintro e w1 ⟨rfl, hb⟩
  rw [show rightB a.s a.mn a.mx = true from H.out]
  obtain ⟨hc, hf⟩ := bcell hb
  have hz : w.heap.size + 1 + 1 < w1.heap.size := by have := hb.size; simp at this; omega
  have hz' : w.heap.size + 1 < w1.heap.size := by omega
  have hz'' : w.heap.size < w1.heap.size := by omega
  go_wp2_with fail
  refine (right_any _ _ _ _).mono ?_
  rintro e w2 ⟨rfl, hb2⟩
  rw [show rightB b.s b.mn b.mx = true from H2.out]
  obtain ⟨hc2, hf2⟩ := bcell hb2
  have hz2 : w.heap.size + 1 + 1 < w2.heap.size := by have := hb2.size; omega
  go_wp2
  all_goals
    exact bodyPost_ret (v := (.tuple #[.agg #[.int .i64 (a.s + b.s), .int .i64 (min a.mn b.mn), .int .i64 (max a.mx b.mx)], .int .i64 0])) (by simp [results, Tryz.results80, go_sem, hc, hc2, hz, hz2] <;> omega) rfl
      ⟨rfl, by repeat (first | exact Below.refl _ _ | refine bset ?_ (by omega) _ | refine bpush ?_ _ | refine bthen ?_ hb | refine bthen ?_ hb2)⟩
theorem ajoin_any (a b : A3) (w : World) :
    Calls Tryz.prog 80 #[.agg #[.int .i64 a.s, .int .i64 a.mn, .int .i64 a.mx], .agg #[.int .i64 b.s, .int .i64 b.mn, .int .i64 b.mx]] w (Ans (joinA a b) w) := by
  cases h : a.right
  · rw [joinA_no1 h]; exact join_no1 a b w h
  cases h2 : b.right
  · rw [joinA_no2 h2]; exact join_no2 a b w h h2
  have hba := right_bd h
  have hbb := right_bd h2
  obtain ⟨⟨a1, a2⟩, -, -, -⟩ := hba
  obtain ⟨⟨b1, b2⟩, -, -, -⟩ := hbb
  by_cases hp : 0 < b.s
  · by_cases ho : 4611686018427387904 - b.s < a.s
    · rw [joinA_over h h2 (fit1_hi (by omega))]; exact join_over1 a b w h h2 hp ho
    · rw [joinA_ok h h2 (fit1_in (by omega) (by omega))]; exact join_ok1 a b w h h2 hp (by omega)
  · by_cases hq : b.s < 0
    · by_cases ho : a.s < -4611686018427387904 - b.s
      · rw [joinA_over h h2 (fit1_lo (by omega))]; exact join_over2 a b w h h2 hq ho
      · rw [joinA_ok h h2 (fit1_in (by omega) (by omega))]; exact join_ok2 a b w h h2 hq (by omega)
    · rw [joinA_ok h h2 (fit1_in (by omega) (by omega))]; exact join_ok3 a b w h h2 (by omega)
end Go.Proofs.YtmmeekmiildliaaGreatDoor
namespace Go.Proofs.YtmmeekmiildliaaGreatDoor
open Go.RowKit
set_option linter.unusedSimpArgs false
set_option maxHeartbeats 400000 in
theorem rfits_any (n : Int) (w : World) : Calls Tryz.prog 110 #[.int .i64 n] w fun e w' => e = .returned (.bool (fit1 n)) ∧ w = w' := by
  by_cases h1 : n < -4611686018427387904
  · rw [fit1_lo h1]
    go_enter Tryz.func110, Tryz.ntmps110
    go_wp2
    go_ret
    exact ⟨rfl, rfl⟩
  · by_cases h2 : 4611686018427387904 < n
    · rw [fit1_hi h2]
      go_enter Tryz.func110, Tryz.ntmps110
      go_wp2
      go_ret
      exact ⟨ret_bool (by simp; omega), rfl⟩
    · rw [fit1_in (by omega) (by omega)]
      go_enter Tryz.func110, Tryz.ntmps110
      go_wp2
      go_ret
      exact ⟨ret_bool (by simp <;> omega), rfl⟩
set_option maxHeartbeats 400000 in
theorem rright_any (s mn mx : Int) (w : World) :
    Calls Tryz.prog 131 #[.agg #[.int .i64 s, .int .i64 mn, .int .i64 mx]] w fun e w' => e = .returned (.bool (rightB s mn mx)) ∧ Below w.heap.size w w' := by
  have hdef : rightB s mn mx = (fit1 s && fit1 mn && fit1 mx && decide (mn ≤ mx)) := rfl
  have HD := Lib.hid hdef
  clear hdef
  go_enter Tryz.func131, Tryz.ntmps131
  go_wp2_with (go_at_call 110; refine (rfits_any _ _).mono ?_; rintro e w2 ⟨rfl, rfl⟩)
  all_goals
    go_ret
    exact ⟨ret_bool (by rw [HD.out]; simp [*]), by repeat (first | exact Below.refl _ _ | refine bset ?_ (by omega) _ | refine bpush ?_ _)⟩
set_option maxHeartbeats 400000 in
theorem one_no (n : Int) (w : World) (h : fit1 n = false) :
    Calls Tryz.prog 75 #[.int .i64 n] w fun e w' => e = .returned (.tuple #[.agg #[.int .i64 0, .int .i64 0, .int .i64 0], .int .i64 121]) ∧ Below w.heap.size w w' := by
  have H := Lib.hid h
  clear h
  go_enter Tryz.func75, Tryz.ntmps75
  go_wp2_with fail
  refine (afits_any _ 1 _ [n] _ ?_ (by omega) rfl).mono ?_
  · exact Row.made (by simp) rfl
  rintro e w' ⟨rfl, rfl⟩
  rw [show [n].all fit1 = false by simp only [List.all_cons, List.all_nil, Bool.and_true]; rw [H.out]]
  go_wp2
  exact bodyPost_ret (v := .tuple #[.agg #[.int .i64 0, .int .i64 0, .int .i64 0], .int .i64 121]) (by simp [results, Tryz.results75, go_sem]) rfl ⟨rfl, ((Below.refl _ _).alloc (Nat.le_refl _) _).alloc (by simp) _⟩
set_option maxHeartbeats 400000 in
theorem one_yes (n : Int) (w : World) (h : fit1 n = true) :
    Calls Tryz.prog 75 #[.int .i64 n] w fun e w' => e = .returned (.tuple #[.agg #[.int .i64 n, .int .i64 n, .int .i64 n], .int .i64 0]) ∧ Below w.heap.size w w' := by
  have H := Lib.hid h
  clear h
  go_enter Tryz.func75, Tryz.ntmps75
  go_wp2_with fail
  refine (afits_any _ 1 _ [n] _ ?_ (by omega) rfl).mono ?_
  · exact Row.made (by simp) rfl
  rintro e w' ⟨rfl, rfl⟩
  rw [show [n].all fit1 = true by simp only [List.all_cons, List.all_nil, Bool.and_true]; rw [H.out]]
  go_wp2
  exact bodyPost_ret (v := .tuple #[.agg #[.int .i64 n, .int .i64 n, .int .i64 n], .int .i64 0]) (by simp [results, Tryz.results75, go_sem]) rfl ⟨rfl, ((Below.refl _ _).alloc (Nat.le_refl _) _).alloc (by simp) _⟩
theorem oneA_no {n : Int} (h : fit1 n = false) : oneA n = (A3.zero, 121) := by simp [oneA, h]
theorem oneA_yes {n : Int} (h : fit1 n = true) : oneA n = (⟨n, n, n⟩, 0) := by simp [oneA, h]
theorem one_any (n : Int) (w : World) : Calls Tryz.prog 75 #[.int .i64 n] w (Ans (oneA n) w) := by
  cases h : fit1 n
  · rw [oneA_no h]; exact one_no n w h
  · rw [oneA_yes h]; exact one_yes n w h
set_option maxHeartbeats 400000 in
theorem rone_any (n : Int) (w : World) : Calls Tryz.prog 81 #[.int .i64 n] w (Ans (oneA n) w) := by
  cases h : fit1 n
  · rw [oneA_no h]
    have H := Lib.hid h
    clear h
    go_enter Tryz.func81, Tryz.ntmps81
    go_wp2_with (go_at_call 110; refine (rfits_any _ _).mono ?_; rintro e w2 ⟨rfl, rfl⟩; rw [H.out])
    exact bodyPost_ret (v := .tuple #[.agg #[.int .i64 0, .int .i64 0, .int .i64 0], .int .i64 121]) (by simp [results, Tryz.results81, go_sem]) rfl
      ⟨rfl, by repeat (first | exact Below.refl _ _ | refine bset ?_ (by omega) _ | refine bpush ?_ _)⟩
  · rw [oneA_yes h]
    have H := Lib.hid h
    clear h
    go_enter Tryz.func81, Tryz.ntmps81
    go_wp2_with (go_at_call 110; refine (rfits_any _ _).mono ?_; rintro e w2 ⟨rfl, rfl⟩; rw [H.out])
    exact bodyPost_ret (v := .tuple #[.agg #[.int .i64 n, .int .i64 n, .int .i64 n], .int .i64 0]) (by simp [results, Tryz.results81, go_sem]) rfl
      ⟨rfl, by repeat (first | exact Below.refl _ _ | refine bset ?_ (by omega) _ | refine bpush ?_ _)⟩
def sizeA (n : Int) : Int := if n < -4611686018427387904 then 4611686018427387904 else min (max n (-n)) 4611686018427387904
end Go.Proofs.YtmmeekmiildliaaGreatDoor
namespace Go.Proofs.YtmmeekmiildliaaGreatDoor
open Go.RowKit
set_option linter.unusedSimpArgs false
set_option maxHeartbeats 400000 in
theorem rjoin_no1 (a b : A3) (w : World) (h : a.right = false) :
    Calls Tryz.prog 112 #[.agg #[.int .i64 a.s, .int .i64 a.mn, .int .i64 a.mx], .agg #[.int .i64 b.s, .int .i64 b.mn, .int .i64 b.mx]] w (Ans (A3.zero, 1) w) := by
  have H := Lib.hid h
  clear h
  go_enter Tryz.func112, Tryz.ntmps112
  go_wp2_with fail
  refine (rright_any _ _ _ _).mono ?_
  rintro e w1 ⟨rfl, hb⟩
  rw [show rightB a.s a.mn a.mx = false from H.out]
  obtain ⟨hc, hf⟩ := bcell hb
  have hz : w.heap.size + 1 + 1 < w1.heap.size := by have := hb.size; simp at this; omega
  have hz' : w.heap.size + 1 < w1.heap.size := by omega
  have hz'' : w.heap.size < w1.heap.size := by omega
  go_wp2_with fail
  refine (rright_any _ _ _ _).mono ?_
  rintro e w2 ⟨rfl, hb2⟩
  obtain ⟨q, hq⟩ : ∃ q, rightB b.s b.mn b.mx = q := ⟨_, rfl⟩
  rw [hq]
  clear hq
  obtain ⟨hc2, hf2⟩ := bcell hb2
  have hz2 : w.heap.size + 1 + 1 < w2.heap.size := by have := hb2.size; omega
  go_wp2
  exact bodyPost_ret (v := (.tuple #[.agg #[.int .i64 0, .int .i64 0, .int .i64 0], .int .i64 1])) (by simp [results, Tryz.results112, go_sem, hc, hc2, hz, hz2]) rfl
    ⟨rfl, by repeat (first | exact Below.refl _ _ | refine bset ?_ (by omega) _ | refine bpush ?_ _ | refine bthen ?_ hb | refine bthen ?_ hb2)⟩
set_option maxHeartbeats 400000 in
theorem rjoin_no2 (a b : A3) (w : World) (h : a.right = true) (h2 : b.right = false) :
    Calls Tryz.prog 112 #[.agg #[.int .i64 a.s, .int .i64 a.mn, .int .i64 a.mx], .agg #[.int .i64 b.s, .int .i64 b.mn, .int .i64 b.mx]] w (Ans (A3.zero, 1) w) := by
  have H2 := Lib.hid h2
  clear h2
  have H := Lib.hid h
  clear h
  go_enter Tryz.func112, Tryz.ntmps112
  go_wp2_with fail
  refine (rright_any _ _ _ _).mono ?_
  rintro e w1 ⟨rfl, hb⟩
  rw [show rightB a.s a.mn a.mx = true from H.out]
  obtain ⟨hc, hf⟩ := bcell hb
  have hz : w.heap.size + 1 + 1 < w1.heap.size := by have := hb.size; simp at this; omega
  have hz' : w.heap.size + 1 < w1.heap.size := by omega
  have hz'' : w.heap.size < w1.heap.size := by omega
  go_wp2_with fail
  refine (rright_any _ _ _ _).mono ?_
  rintro e w2 ⟨rfl, hb2⟩
  rw [show rightB b.s b.mn b.mx = false from H2.out]
  obtain ⟨hc2, hf2⟩ := bcell hb2
  have hz2 : w.heap.size + 1 + 1 < w2.heap.size := by have := hb2.size; omega
  go_wp2
  exact bodyPost_ret (v := (.tuple #[.agg #[.int .i64 0, .int .i64 0, .int .i64 0], .int .i64 1])) (by simp [results, Tryz.results112, go_sem, hc, hc2, hz, hz2]) rfl
    ⟨rfl, by repeat (first | exact Below.refl _ _ | refine bset ?_ (by omega) _ | refine bpush ?_ _ | refine bthen ?_ hb | refine bthen ?_ hb2)⟩
set_option maxHeartbeats 400000 in
theorem rjoin_over1 (a b : A3) (w : World) (h : a.right = true) (h2 : b.right = true) (hp : 0 < b.s) (ho : 4611686018427387904 - b.s < a.s) :
    Calls Tryz.prog 112 #[.agg #[.int .i64 a.s, .int .i64 a.mn, .int .i64 a.mx], .agg #[.int .i64 b.s, .int .i64 b.mn, .int .i64 b.mx]] w (Ans (A3.zero, 121) w) := by
  have hba := right_bd h
  have hbb := right_bd h2
  obtain ⟨⟨a1, a2⟩, -, -, -⟩ := hba
  obtain ⟨⟨b1, b2⟩, -, -, -⟩ := hbb
  have H2 := Lib.hid h2
  clear h2
  have H := Lib.hid h
  clear h
  go_enter Tryz.func112, Tryz.ntmps112
  go_wp2_with fail
  refine (rright_any _ _ _ _).mono ?_
  rintro e w1 ⟨rfl, hb⟩
  rw [show rightB a.s a.mn a.mx = true from H.out]
  obtain ⟨hc, hf⟩ := bcell hb
  have hz : w.heap.size + 1 + 1 < w1.heap.size := by have := hb.size; simp at this; omega
  have hz' : w.heap.size + 1 < w1.heap.size := by omega
  have hz'' : w.heap.size < w1.heap.size := by omega
  go_wp2_with fail
  refine (rright_any _ _ _ _).mono ?_
  rintro e w2 ⟨rfl, hb2⟩
  rw [show rightB b.s b.mn b.mx = true from H2.out]
  obtain ⟨hc2, hf2⟩ := bcell hb2
  have hz2 : w.heap.size + 1 + 1 < w2.heap.size := by have := hb2.size; omega
  go_wp2
  exact bodyPost_ret (v := (.tuple #[.agg #[.int .i64 0, .int .i64 0, .int .i64 0], .int .i64 121])) (by simp [results, Tryz.results112, go_sem, hc, hc2, hz, hz2]) rfl
    ⟨rfl, by repeat (first | exact Below.refl _ _ | refine bset ?_ (by omega) _ | refine bpush ?_ _ | refine bthen ?_ hb | refine bthen ?_ hb2)⟩
set_option maxHeartbeats 400000 in
theorem rjoin_over2 (a b : A3) (w : World) (h : a.right = true) (h2 : b.right = true) (hp : b.s < 0) (ho : a.s < -4611686018427387904 - b.s) :
    Calls Tryz.prog 112 #[.agg #[.int .i64 a.s, .int .i64 a.mn, .int .i64 a.mx], .agg #[.int .i64 b.s, .int .i64 b.mn, .int .i64 b.mx]] w (Ans (A3.zero, 121) w) := by
  have hba := right_bd h
  have hbb := right_bd h2
  obtain ⟨⟨a1, a2⟩, -, -, -⟩ := hba
  obtain ⟨⟨b1, b2⟩, -, -, -⟩ := hbb
  have H2 := Lib.hid h2
  clear h2
  have H := Lib.hid h
  clear h
  go_enter Tryz.func112, Tryz.ntmps112
  go_wp2_with fail
  refine (rright_any _ _ _ _).mono ?_
  rintro e w1 ⟨rfl, hb⟩
  rw [show rightB a.s a.mn a.mx = true from H.out]
  obtain ⟨hc, hf⟩ := bcell hb
  have hz : w.heap.size + 1 + 1 < w1.heap.size := by have := hb.size; simp at this; omega
  have hz' : w.heap.size + 1 < w1.heap.size := by omega
  have hz'' : w.heap.size < w1.heap.size := by omega
  go_wp2_with fail
  refine (rright_any _ _ _ _).mono ?_
  rintro e w2 ⟨rfl, hb2⟩
  rw [show rightB b.s b.mn b.mx = true from H2.out]
  obtain ⟨hc2, hf2⟩ := bcell hb2
  have hz2 : w.heap.size + 1 + 1 < w2.heap.size := by have := hb2.size; omega
  go_wp2
  exact bodyPost_ret (v := (.tuple #[.agg #[.int .i64 0, .int .i64 0, .int .i64 0], .int .i64 121])) (by simp [results, Tryz.results112, go_sem, hc, hc2, hz, hz2]) rfl
    ⟨rfl, by repeat (first | exact Below.refl _ _ | refine bset ?_ (by omega) _ | refine bpush ?_ _ | refine bthen ?_ hb | refine bthen ?_ hb2)⟩
set_option maxHeartbeats 400000 in
theorem rjoin_ok1 (a b : A3) (w : World) (h : a.right = true) (h2 : b.right = true) (hp : 0 < b.s) (ho : a.s ≤ 4611686018427387904 - b.s) :
    Calls Tryz.prog 112 #[.agg #[.int .i64 a.s, .int .i64 a.mn, .int .i64 a.mx], .agg #[.int .i64 b.s, .int .i64 b.mn, .int .i64 b.mx]] w (Ans (⟨a.s + b.s, min a.mn b.mn, max a.mx b.mx⟩, 0) w) := by
  have hba := right_bd h
  have hbb := right_bd h2
  obtain ⟨⟨a1, a2⟩, -, -, -⟩ := hba
  obtain ⟨⟨b1, b2⟩, -, -, -⟩ := hbb
  have H2 := Lib.hid h2
  clear h2
  have H := Lib.hid h
  clear h
  go_enter Tryz.func112, Tryz.ntmps112
  go_wp2_with fail
  refine (rright_any _ _ _ _).mono ?_
  rintro e w1 ⟨rfl, hb⟩
  rw [show rightB a.s a.mn a.mx = true from H.out]
  obtain ⟨hc, hf⟩ := bcell hb
  have hz : w.heap.size + 1 + 1 < w1.heap.size := by have := hb.size; simp at this; omega
  have hz' : w.heap.size + 1 < w1.heap.size := by omega
  have hz'' : w.heap.size < w1.heap.size := by omega
  go_wp2_with fail
  refine (rright_any _ _ _ _).mono ?_
  rintro e w2 ⟨rfl, hb2⟩
  rw [show rightB b.s b.mn b.mx = true from H2.out]
  obtain ⟨hc2, hf2⟩ := bcell hb2
  have hz2 : w.heap.size + 1 + 1 < w2.heap.size := by have := hb2.size; omega
  go_wp2
  all_goals
    exact bodyPost_ret (v := (.tuple #[.agg #[.int .i64 (a.s + b.s), .int .i64 (min a.mn b.mn), .int .i64 (max a.mx b.mx)], .int .i64 0])) (by simp [results, Tryz.results112, go_sem, hc, hc2, hz, hz2] <;> omega) rfl
      ⟨rfl, by repeat (first | exact Below.refl _ _ | refine bset ?_ (by omega) _ | refine bpush ?_ _ | refine bthen ?_ hb | refine bthen ?_ hb2)⟩
set_option maxHeartbeats 400000 in
theorem rjoin_ok2 (a b : A3) (w : World) (h : a.right = true) (h2 : b.right = true) (hp : b.s < 0) (ho : -4611686018427387904 - b.s ≤ a.s) :
    Calls Tryz.prog 112 #[.agg #[.int .i64 a.s, .int .i64 a.mn, .int .i64 a.mx], .agg #[.int .i64 b.s, .int .i64 b.mn, .int .i64 b.mx]] w (Ans (⟨a.s + b.s, min a.mn b.mn, max a.mx b.mx⟩, 0) w) := by
  have hba := right_bd h
  have hbb := right_bd h2
  obtain ⟨⟨a1, a2⟩, -, -, -⟩ := hba
  obtain ⟨⟨b1, b2⟩, -, -, -⟩ := hbb
  have H2 := Lib.hid h2
  clear h2
  have H := Lib.hid h
  clear h
  go_enter Tryz.func112, Tryz.ntmps112
  go_wp2_with fail
  refine (rright_any _ _ _ _).mono ?_
  rintro e w1 ⟨rfl, hb⟩
  rw [show rightB a.s a.mn a.mx = true from H.out]
  obtain ⟨hc, hf⟩ := bcell hb
  have hz : w.heap.size + 1 + 1 < w1.heap.size := by have := hb.size; simp at this; omega
  have hz' : w.heap.size + 1 < w1.heap.size := by omega
  have hz'' : w.heap.size < w1.heap.size := by omega
  go_wp2_with fail
  refine (rright_any _ _ _ _).mono ?_
  rintro e w2 ⟨rfl, hb2⟩
  rw [show rightB b.s b.mn b.mx = true from H2.out]
  obtain ⟨hc2, hf2⟩ := bcell hb2
  have hz2 : w.heap.size + 1 + 1 < w2.heap.size := by have := hb2.size; omega
  go_wp2
  all_goals
    exact bodyPost_ret (v := (.tuple #[.agg #[.int .i64 (a.s + b.s), .int .i64 (min a.mn b.mn), .int .i64 (max a.mx b.mx)], .int .i64 0])) (by simp [results, Tryz.results112, go_sem, hc, hc2, hz, hz2] <;> omega) rfl
      ⟨rfl, by repeat (first | exact Below.refl _ _ | refine bset ?_ (by omega) _ | refine bpush ?_ _ | refine bthen ?_ hb | refine bthen ?_ hb2)⟩
set_option maxHeartbeats 400000 in
theorem rjoin_ok3 (a b : A3) (w : World) (h : a.right = true) (h2 : b.right = true) (hp : b.s = 0) :
    Calls Tryz.prog 112 #[.agg #[.int .i64 a.s, .int .i64 a.mn, .int .i64 a.mx], .agg #[.int .i64 b.s, .int .i64 b.mn, .int .i64 b.mx]] w (Ans (⟨a.s + b.s, min a.mn b.mn, max a.mx b.mx⟩, 0) w) := by
  have hba := right_bd h
  have hbb := right_bd h2
  obtain ⟨⟨a1, a2⟩, -, -, -⟩ := hba
  obtain ⟨⟨b1, b2⟩, -, -, -⟩ := hbb
  have H2 := Lib.hid h2
  clear h2
  have hp1 : ¬ 0 < b.s := by omega
  have hp2 : ¬ b.s < 0 := by omega
  clear hp
  have H := Lib.hid h
  clear h
  go_enter Tryz.func112, Tryz.ntmps112
  go_wp2_with fail
  refine (rright_any _ _ _ _).mono ?_
  rintro e w1 ⟨rfl, hb⟩
  rw [show rightB a.s a.mn a.mx = true from H.out]
  obtain ⟨hc, hf⟩ := bcell hb
  have hz : w.heap.size + 1 + 1 < w1.heap.size := by have := hb.size; simp at this; omega
  have hz' : w.heap.size + 1 < w1.heap.size := by omega
  have hz'' : w.heap.size < w1.heap.size := by omega
  go_wp2_with fail
  refine (rright_any _ _ _ _).mono ?_
  rintro e w2 ⟨rfl, hb2⟩
  rw [show rightB b.s b.mn b.mx = true from H2.out]
  obtain ⟨hc2, hf2⟩ := bcell hb2
  have hz2 : w.heap.size + 1 + 1 < w2.heap.size := by have := hb2.size; omega
  go_wp2
  all_goals
    exact bodyPost_ret (v := (.tuple #[.agg #[.int .i64 (a.s + b.s), .int .i64 (min a.mn b.mn), .int .i64 (max a.mx b.mx)], .int .i64 0])) (by simp [results, Tryz.results112, go_sem, hc, hc2, hz, hz2] <;> omega) rfl
      ⟨rfl, by repeat (first | exact Below.refl _ _ | refine bset ?_ (by omega) _ | refine bpush ?_ _ | refine bthen ?_ hb | refine bthen ?_ hb2)⟩
theorem rjoin_any (a b : A3) (w : World) :
    Calls Tryz.prog 112 #[.agg #[.int .i64 a.s, .int .i64 a.mn, .int .i64 a.mx], .agg #[.int .i64 b.s, .int .i64 b.mn, .int .i64 b.mx]] w (Ans (joinA a b) w) := by
  cases h : a.right
  · rw [joinA_no1 h]; exact rjoin_no1 a b w h
  cases h2 : b.right
  · rw [joinA_no2 h2]; exact rjoin_no2 a b w h h2
  have hba := right_bd h
  have hbb := right_bd h2
  obtain ⟨⟨a1, a2⟩, -, -, -⟩ := hba
  obtain ⟨⟨b1, b2⟩, -, -, -⟩ := hbb
  by_cases hp : 0 < b.s
  · by_cases ho : 4611686018427387904 - b.s < a.s
    · rw [joinA_over h h2 (fit1_hi (by omega))]; exact rjoin_over1 a b w h h2 hp ho
    · rw [joinA_ok h h2 (fit1_in (by omega) (by omega))]; exact rjoin_ok1 a b w h h2 hp (by omega)
  · by_cases hq : b.s < 0
    · by_cases ho : a.s < -4611686018427387904 - b.s
      · rw [joinA_over h h2 (fit1_lo (by omega))]; exact rjoin_over2 a b w h h2 hq ho
      · rw [joinA_ok h h2 (fit1_in (by omega) (by omega))]; exact rjoin_ok2 a b w h h2 hq (by omega)
    · rw [joinA_ok h h2 (fit1_in (by omega) (by omega))]; exact rjoin_ok3 a b w h h2 (by omega)
end Go.Proofs.YtmmeekmiildliaaGreatDoor
