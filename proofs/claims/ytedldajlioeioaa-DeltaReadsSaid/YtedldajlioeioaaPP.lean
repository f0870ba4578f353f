/- The document's reader: N and Whole; what its Decode reads. -/
import Derived.Test.YtedldajlioeioaaPL
import Derived.Test.YtedldajlioeioaaZC
namespace Go.Proofs.Ytedldajlioeioaa
open Go.RowKit
set_option linter.unusedSimpArgs false
set_option linter.unusedVariables false
/-- What N answers, and where the reader is then. -/
def Nx (lo hi : Int) (bs : List Int) (I : Nat) (bad : Bool) (v : Int) (J : Nat) (b : Bool) : Prop :=
  (numP (bs.drop I) = (v, J - I) ∧ I < J ∧ J ≤ bs.length ∧ lo ≤ v ∧ v ≤ hi ∧ b = bad) ∨ (((numP (bs.drop I)).2 = 0 ∨ (numP (bs.drop I)).1 < lo ∨ hi < (numP (bs.drop I)).1) ∧ v = 0 ∧ J = I ∧ b = true)
theorem Nx.le {lo hi : Int} {bs : List Int} {I : Nat} {bad : Bool} {v : Int} {J : Nat} {b : Bool} (h : Nx lo hi bs I bad v J b) (hI : I ≤ bs.length) : J ≤ bs.length := by
  rcases h with ⟨_, _, h, _⟩ | ⟨_, _, h, _⟩ <;> omega
theorem Nx.bd {lo hi : Int} {bs : List Int} {I : Nat} {bad : Bool} {v : Int} {J : Nat} {b : Bool} (h : Nx lo hi bs I bad v J b) (h0 : lo ≤ 0) (h1 : 0 ≤ hi) : lo ≤ v ∧ v ≤ hi := by
  rcases h with ⟨_, _, _, h2, h3, _⟩ | ⟨_, h, _⟩ <;> omega
set_option maxRecDepth 100000 in
set_option maxHeartbeats 1000000 in
theorem refn_any (mb : Nat) (A : Option Addr) (n c I : Nat) (bad : Bool) (bs : List Int) (lo hi : Int) (w : World) (hB : Bx w mb (.slice A n c) I bad) (hA : Row w A (bs.map (Value.int .u8))) (hn : n ≤ 1000000) (hz : n = bs.length) (hI : I ≤ n) (hb : bytes bs) :
    Calls Try.prog 28 #[.pointer (some ⟨mb, 0, none⟩), .int .i64 lo, .int .i64 hi] w fun e w' => ∃ (v : Int) (J : Nat) (b : Bool), Nx lo hi bs I bad v J b ∧ e = .returned (.int .i64 v) ∧ Bx w' mb (.slice A n c) J b ∧ w.grownBy w' (some mb) := by
  obtain ⟨v, l, hp⟩ : ∃ v l, numP (bs.drop I) = (v, l) := ⟨_, _, rfl⟩
  have hlen := numP_len hp
  rw [List.length_drop] at hlen
  have HP := Lib.hid hp
  have HB := Lib.hid hB
  have HA := Lib.hid hA
  have HZ := Lib.hid hz
  have HBB := Lib.hid hb
  by_cases hbad : l = 0 ∨ v < lo ∨ hi < v
  · have HBAD := Lib.hid hbad
    clear hp hB hA hz hb hbad
    go_enter Try.func28, Try.ntmps28
    go_wp2_with fail
    refine (refrint_bad mb A n c I bad bs lo hi w HB.out HA.out hn HZ.out hI HBB.out v l HP.out HBAD.out).mono ?_
    rintro e w1 ⟨rfl, h1, h2⟩
    go_wp2
    go_ret
    exact ⟨0, I, true, .inr ⟨by rw [HP.out]; exact HBAD.out, rfl, rfl, rfl⟩, rfl, h1, h2⟩
  · have hl0 : 0 < l := by omega
    have hv1 : lo ≤ v := by omega
    have hv2 : v ≤ hi := by omega
    clear hp hB hA hz hb hbad
    go_enter Try.func28, Try.ntmps28
    go_wp2_with fail
    refine (refrint_good mb A n c I bad bs lo hi w HB.out HA.out hn HZ.out hI HBB.out v l HP.out hl0 hv1 hv2).mono ?_
    rintro e w1 ⟨rfl, h1, h2⟩
    go_wp2
    go_ret
    exact ⟨v, I + l, bad, .inl ⟨by rw [HP.out]; congr 1; omega, by omega, by have := HZ.out; omega, hv1, hv2, rfl⟩, rfl, h1, h2⟩
set_option maxRecDepth 100000 in
set_option maxHeartbeats 1000000 in
theorem whole_any (mb : Nat) (A : Option Addr) (n c I : Nat) (bad : Bool) (w : World) (hB : Bx w mb (.slice A n c) I bad) (r : Bool) (hr : r = true ↔ bad = false ∧ I = n) :
    Calls Try.prog 32 #[.pointer (some ⟨mb, 0, none⟩)] w fun e w' => e = .returned (.bool r) ∧ ∃ m, w' = w.drewN m := by
  obtain ⟨b0, b1, b2, _⟩ := hB
  have HR := Lib.hid hr
  clear hr
  cases bad with
  | true =>
    have hr : r = false := by cases r with | false => rfl | true => exact absurd (HR.out.1 rfl).1 (by simp)
    go_enter Try.func32, Try.ntmps32
    go_wp2_with fail
    go_quiet (fail)
    go_wp2_with fail
    go_ret
    exact ⟨by rw [hr]; first | rfl | simp, _, rfl⟩
  | false =>
    by_cases hIn : I = n
    · have he : ((I : Int) == (n : Int)) = true := by rw [beq_iff_eq]; omega
      have hr : r = true := HR.out.2 ⟨rfl, hIn⟩
      clear hIn
      go_enter Try.func32, Try.ntmps32
      go_wp2_with fail
      go_quiet (fail)
      go_wp2_with fail
      go_ret
      exact ⟨by rw [hr]; first | rfl | simp, _, rfl⟩
    · have he : ((I : Int) == (n : Int)) = false := by rw [beq_eq_false_iff_ne]; omega
      have hr : r = false := by cases r with | false => rfl | true => exact absurd (HR.out.1 rfl).2 hIn
      clear hIn
      go_enter Try.func32, Try.ntmps32
      go_wp2_with fail
      go_quiet (fail)
      go_wp2_with fail
      go_ret
      exact ⟨by rw [hr]; first | rfl | simp, _, rfl⟩
theorem doc_read {bs : List Int} {N W : Nat} {f b : Int} {I1 I2 I3 I4 : Nat} {b1 b2 b3 b4 : Bool} {l2 : List Int} (h1 : Nx 0 65536 bs 0 false (N : Int) I1 b1) (h0 : 0 < N) (h2 : Nx (-9223372036854775808) 9223372036854775807 bs I1 b1 f I2 b2) (h3 : Nx (-9223372036854775808) 9223372036854775807 bs I2 b2 b I3 b3) (h4 : Nx 0 64 bs I3 b3 (W : Int) I4 b4) (hr : readZ bs = some l2) :
    b4 = false ∧ (bs.drop I4).length = sizeN (N - 1) W ∧ numF (bitB (bs.drop I4)) ((N - 1) * W) (8 * (bs.drop I4).length - (N - 1) * W) = 0 ∧ l2 = walkZ b f (unp (bs.drop I4) W (N - 1)) := by
  rcases h1 with ⟨e1, p1, _, q1, r1, rfl⟩ | ⟨_, hv, _⟩
  rotate_left
  · omega
  rw [List.drop_zero, Nat.sub_zero] at e1
  rcases h2 with ⟨e2, p2, _, q2, r2, rfl⟩ | ⟨hb, _⟩
  rotate_left
  · obtain ⟨v, l, hp⟩ : ∃ v l, numP (bs.drop I1) = (v, l) := ⟨_, _, rfl⟩
    have hl := numP_len hp
    rw [hp] at hb
    have hl0 : l = 0 := by simp only at hb; omega
    subst hl0
    rw [read_f e1 p1 (by omega) (by omega) hp] at hr; cases hr
  have d2 : (bs.drop I1).drop (I2 - I1) = bs.drop I2 := by rw [List.drop_drop]; congr 1; omega
  rcases h3 with ⟨e3, p3, _, q3, r3, rfl⟩ | ⟨hb, _⟩
  rotate_left
  · obtain ⟨v, l, hp⟩ : ∃ v l, numP (bs.drop I2) = (v, l) := ⟨_, _, rfl⟩
    have hl := numP_len hp
    rw [hp] at hb
    have hl0 : l = 0 := by simp only at hb; omega
    subst hl0
    rw [read_b e1 p1 (by omega) (by omega) e2 (by omega) (by rw [d2]; exact hp)] at hr; cases hr
  have e3' : numP ((bs.drop I1).drop (I2 - I1)) = (b, I3 - I2) := by rw [d2]; exact e3
  have d3 : (bs.drop I2).drop (I3 - I2) = bs.drop I3 := by rw [List.drop_drop]; congr 1; omega
  rcases h4 with ⟨e4, p4, _, q4, r4, rfl⟩ | ⟨hb, _⟩
  rotate_left
  · obtain ⟨v, l, hp⟩ : ∃ v l, numP (bs.drop I3) = (v, l) := ⟨_, _, rfl⟩
    rw [hp] at hb
    have hp' : numP (((bs.drop I1).drop (I2 - I1)).drop (I3 - I2)) = (v, l) := by rw [d2, d3]; exact hp
    rw [read_w e1 p1 (by omega) (by omega) e2 (by omega) e3' (by omega) hp' hb] at hr; cases hr
  have d4 : (bs.drop I3).drop (I4 - I3) = bs.drop I4 := by rw [List.drop_drop]; congr 1; omega
  have e4' : numP (((bs.drop I1).drop (I2 - I1)).drop (I3 - I2)) = ((W : Int), I4 - I3) := by rw [d2, d3]; exact e4
  rw [read_p e1 p1 (by omega) (by omega) e2 (by omega) e3' (by omega) e4' (by omega) (by omega)] at hr
  rw [d2, d3, d4] at hr
  split at hr
  · rename_i h
    exact ⟨rfl, h.1, h.2, (Option.some.inj hr).symm⟩
  · cases hr
theorem dec_read {bs l : List Int} (h : decZ bs = some l) : readZ bs = some l := by
  have h1 := dec_iff.1 h
  rw [← h1.2]; exact read_enc h1.1.1 h1.1.2
end Go.Proofs.Ytedldajlioeioaa
