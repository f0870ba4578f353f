/- Right. -/
import Derived.Test.YtbecgknahhhfiaaK
namespace Go.Proofs.Ytbecgknahhhfiaa
open Go.RowKit
set_option linter.unusedSimpArgs false
set_option linter.unusedVariables false
def rightP (L M : List ByteArray) : Prop := 1 ≤ L.length ∧ L.length ≤ 6 ∧ M.length ≤ 4 ∧ namesP (L ++ M)
set_option maxRecDepth 100000 in
set_option maxHeartbeats 2000000 in
theorem right_any (A B : Option Addr) (n c m d : Nat) (L M : List ByteArray) (w : World) (hA : Row w A (texts L)) (hB : Row w B (texts M)) (hn : n = L.length) (hm : m = M.length) (hnc : n ≤ c) (hmd : m ≤ d) (ha : A = none → c = 0) (hb : B = none → d = 0)
    (hL : ∀ s ∈ L, s.size ≤ 9223372036854775807) (hM : ∀ s ∈ M, s.size ≤ 9223372036854775807) (hn2 : n ≤ 9223372036854775807) (hm2 : m ≤ 9223372036854775807) (r : Bool) (hr : r = true ↔ rightP L M) :
    Calls Try.prog 14 #[.agg #[.slice A n c, .slice B m d]] w fun e w' => e = .returned (.bool r) ∧ Below w.heap.size w w' := by
  have HA := Lib.hid hA
  have HB := Lib.hid hB
  have HN := Lib.hid hn
  have HM := Lib.hid hm
  have Ha := Lib.hid ha
  have Hb := Lib.hid hb
  have HR := Lib.hid hr
  have HL := Lib.hid hL
  have HLM := Lib.hid hM
  clear hA hB hn hm ha hb hr hL hM
  by_cases h1 : n < 1
  · have d1 : decide ((n : Int) < 1) = true := by simp; omega
    obtain rfl : r = false := by
      cases r with
      | false => rfl
      | true => have := (HR.out.1 rfl).1; have := HN.out; omega
    clear h1
    go_enter Try.func14, Try.ntmps14
    go_wp2_with fail
    go_ret
    exact ⟨rfl, bpush (Below.refl _ _) _⟩
  have d1 : decide ((n : Int) < 1) = false := by simp; omega
  by_cases h2 : 6 < n
  · have d2 : decide (6 < (n : Int)) = true := by simp; omega
    obtain rfl : r = false := by
      cases r with
      | false => rfl
      | true => have := (HR.out.1 rfl).2.1; have := HN.out; omega
    clear h1 h2
    go_enter Try.func14, Try.ntmps14
    go_wp2_with fail
    go_ret
    exact ⟨rfl, bpush (Below.refl _ _) _⟩
  have d2 : decide (6 < (n : Int)) = false := by simp; omega
  by_cases h3 : 4 < m
  · have d3 : decide (4 < (m : Int)) = true := by simp; omega
    obtain rfl : r = false := by
      cases r with
      | false => rfl
      | true => have := (HR.out.1 rfl).2.2.1; have := HM.out; omega
    clear h1 h2 h3
    go_enter Try.func14, Try.ntmps14
    go_wp2_with fail
    go_ret
    exact ⟨rfl, bpush (Below.refl _ _) _⟩
  have d3 : decide (4 < (m : Int)) = false := by simp; omega
  have HP := Lib.hid (show r = true ↔ namesP (L ++ M) from ⟨fun h => (HR.out.1 h).2.2.2, fun h => HR.out.2 ⟨by have := HN.out; omega, by have := HN.out; omega, by have := HM.out; omega, h⟩⟩)
  have h2' : n ≤ 6 := by omega
  have h3' : m ≤ 4 := by omega
  clear h1 h2 h3
  obtain ⟨W1, hW1⟩ : ∃ W1, W1 = (w.alloc (.cells #[.slice A n c, .slice B m d] 24)).alloc (.cells #[.slice A n c, .slice B m d] 22) := ⟨_, rfl⟩
  have hbw : Below w.heap.size w W1 := by rw [hW1]; exact bthen (bpush (Below.refl _ _) _) (bpush (Below.refl _ _) _)
  have c0 : W1.cell? ⟨w.heap.size + 1, 0, none⟩ = some (.slice A n c) := by rw [hW1]; simp
  have c1 : W1.cell? ⟨w.heap.size + 1, 1, none⟩ = some (.slice B m d) := by rw [hW1]; simp
  have HW := Lib.hid hW1
  have HBW := Lib.hid hbw
  have C0 := Lib.hid c0
  have C1 := Lib.hid c1
  clear hW1 hbw c0 c1
  go_enter Try.func14, Try.ntmps14
  go_wp2_with fail
  rw [← HW.out]
  refine (concat_any _ _ A B n c m d L M _ C0.out C1.out (HA.out.keep (Nat.le_refl _) HBW.out) (HB.out.keep (Nat.le_refl _) HBW.out) HN.out HM.out hnc hmd Ha.out Hb.out (by omega) (by omega)).mono ?_
  rintro e w2 ⟨v, rfl, ho, hb2⟩
  obtain ⟨A3, c3, rfl, hr3, hc3, _⟩ := own_slice ho
  have HR3 := Lib.hid hr3
  have HB2 := Lib.hid (bthen HBW.out hb2)
  obtain ⟨k, hk⟩ : ∃ k, k = L.length + M.length := ⟨_, rfl⟩
  rw [← hk] at hc3 ⊢
  have HK := Lib.hid hk
  have hk2 : k ≤ 10 := by have := HN.out; have := HM.out; omega
  clear ho hb2 hr3 hk
  go_wp2_with fail
  refine (names_any A3 k c3 (L ++ M) _ HR3.out (by rw [List.length_append]; exact HK.out) hc3 (by omega) (fun s hs => (List.mem_append.1 hs).elim (HL.out s) (HLM.out s)) r HP.out).mono ?_
  rintro e w3 ⟨rfl, hb3⟩
  go_wp2_with fail
  go_ret
  exact ⟨rfl, bthen HB2.out hb3⟩
end Go.Proofs.Ytbecgknahhhfiaa
