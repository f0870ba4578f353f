/- The document's reader: N and Whole; what its Decode reads. -/
import Derived.Test.YtgegmbkjkiifaaaZA
import Derived.Deep.QuietTactic
import Derived.BigQuiet
namespace Go.Proofs.Ytgegmbkjkiifaaa
open Go.RowKit
set_option linter.unusedSimpArgs false
set_option linter.unusedVariables false
/-- What N answers, and where the reader is then. -/
def Nx (lo hi : Int) (bs : List Int) (I : Nat) (bad : Bool) (v : Int) (J : Nat) (b : Bool) : Prop :=
  (numP (bs.drop I) = (v, J - I) ∧ I < J ∧ J ≤ bs.length ∧ lo ≤ v ∧ v ≤ hi ∧ b = bad) ∨ (((numP (bs.drop I)).2 = 0 ∨ (numP (bs.drop I)).1 < lo ∨ hi < (numP (bs.drop I)).1) ∧ v = 0 ∧ J = I ∧ b = true)
theorem Nx.le {lo hi : Int} {bs : List Int} {I : Nat} {bad : Bool} {v : Int} {J : Nat} {b : Bool} (h : Nx lo hi bs I bad v J b) (hI : I ≤ bs.length) : J ≤ bs.length := by
  rcases h with ⟨_, _, h, _⟩ | ⟨_, _, h, _⟩ <;> omega
theorem Nx.bd {lo hi : Int} {bs : List Int} {I : Nat} {bad : Bool} {v : Int} {J : Nat} {b : Bool} (h : Nx lo hi bs I bad v J b) (h0 : lo ≤ 0) (h1 : 0 ≤ hi) : lo ≤ v ∧ v ≤ hi := by
  rcases h with ⟨_, _, _, h2, h3, _⟩ | ⟨_, h, _⟩ <;> omega
set_option maxRecDepth 100000 in
set_option maxHeartbeats 1000000 in
theorem refn_any (mb : Nat) (A : Option Addr) (n c I : Nat) (bad : Bool) (bs : List Int) (lo hi : Int) (w : World) (hB : Bx w mb (.slice A n c) I bad) (hA : Row w A (bs.map (Value.int .u8))) (hn : n ≤ 1000000) (hz : n = bs.length) (hI : I ≤ n) (hb : bytes bs) :
    Calls Try.prog 42 #[.pointer (some ⟨mb, 0, none⟩), .int .i64 lo, .int .i64 hi] w fun e w' => ∃ (v : Int) (J : Nat) (b : Bool), Nx lo hi bs I bad v J b ∧ e = .returned (.int .i64 v) ∧ Bx w' mb (.slice A n c) J b ∧ w.grownBy w' (some mb) := by
  obtain ⟨v, l, hp⟩ : ∃ v l, numP (bs.drop I) = (v, l) := ⟨_, _, rfl⟩
  have hlen := numP_len hp
  rw [List.length_drop] at hlen
  have HP := Lib.hid hp
  have HB := Lib.hid hB
  have HA := Lib.hid hA
  have HZ := Lib.hid hz
  have HBB := Lib.hid hb
  by_cases hbad : l = 0 ∨ v < lo ∨ hi < v
  · have HBAD := Lib.hid hbad
    clear hp hB hA hz hb hbad
    go_enter Try.func42, Try.ntmps42
    go_wp2_with fail
    refine (refrint_bad mb A n c I bad bs lo hi w HB.out HA.out hn HZ.out hI HBB.out v l HP.out HBAD.out).mono ?_
    rintro e w1 ⟨rfl, h1, h2⟩
    go_wp2
    go_ret
    exact ⟨0, I, true, .inr ⟨by rw [HP.out]; exact HBAD.out, rfl, rfl, rfl⟩, rfl, h1, h2⟩
  · have hl0 : 0 < l := by omega
    have hv1 : lo ≤ v := by omega
    have hv2 : v ≤ hi := by omega
    clear hp hB hA hz hb hbad
    go_enter Try.func42, Try.ntmps42
    go_wp2_with fail
    refine (refrint_good mb A n c I bad bs lo hi w HB.out HA.out hn HZ.out hI HBB.out v l HP.out hl0 hv1 hv2).mono ?_
    rintro e w1 ⟨rfl, h1, h2⟩
    go_wp2
    go_ret
    exact ⟨v, I + l, bad, .inl ⟨by rw [HP.out]; congr 1; omega, by omega, by have := HZ.out; omega, hv1, hv2, rfl⟩, rfl, h1, h2⟩
set_option maxRecDepth 100000 in
set_option maxHeartbeats 1000000 in
theorem whole_any (mb : Nat) (A : Option Addr) (n c I : Nat) (bad : Bool) (w : World) (hB : Bx w mb (.slice A n c) I bad) (r : Bool) (hr : r = true ↔ bad = false ∧ I = n) :
    Calls Try.prog 44 #[.pointer (some ⟨mb, 0, none⟩)] w fun e w' => e = .returned (.bool r) ∧ ∃ m, w' = w.drewN m := by
  obtain ⟨b0, b1, b2, _⟩ := hB
  have HR := Lib.hid hr
  clear hr
  cases bad with
  | true =>
    have hr : r = false := by cases r with | false => rfl | true => exact absurd (HR.out.1 rfl).1 (by simp)
    go_enter Try.func44, Try.ntmps44
    go_wp2_with fail
    go_quiet (fail)
    go_wp2_with fail
    go_ret
    exact ⟨by rw [hr]; first | rfl | simp, _, rfl⟩
  | false =>
    by_cases hIn : I = n
    · have he : ((I : Int) == (n : Int)) = true := by rw [beq_iff_eq]; omega
      have hr : r = true := HR.out.2 ⟨rfl, hIn⟩
      clear hIn
      go_enter Try.func44, Try.ntmps44
      go_wp2_with fail
      go_quiet (fail)
      go_wp2_with fail
      go_ret
      exact ⟨by rw [hr]; first | rfl | simp, _, rfl⟩
    · have he : ((I : Int) == (n : Int)) = false := by rw [beq_eq_false_iff_ne]; omega
      have hr : r = false := by cases r with | false => rfl | true => exact absurd (HR.out.1 rfl).2 hIn
      clear hIn
      go_enter Try.func44, Try.ntmps44
      go_wp2_with fail
      go_quiet (fail)
      go_wp2_with fail
      go_ret
      exact ⟨by rw [hr]; first | rfl | simp, _, rfl⟩
end Go.Proofs.Ytgegmbkjkiifaaa
