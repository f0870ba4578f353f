/- The stretches ahead; whether the first one has begun; what becomes of two sets between two ends. -/
import Derived.Test.YtohdkidfhohmlaaQ
namespace Go.Proofs.Ytohdkidfhohmlaa
open Go.RowKit
set_option linter.unusedSimpArgs false
set_option linter.unusedVariables false
def dropB (x : Int) : List (Int × Int) → List (Int × Int)
  | [] => []
  | p :: L => if p.2 ≤ x then dropB x L else p :: L
def begB (x : Int) : List (Int × Int) → Bool
  | [] => false
  | p :: _ => decide (p.1 ≤ x)
theorem Row.tail {W : World} {b off : Nat} {p : Int × Int} {L : List (Int × Int)} (h : Row W (some ⟨b, off, none⟩) (cellsP (p :: L))) : Row W (some ⟨b, off + 2, none⟩) (cellsP L) := by
  rcases h with h | ⟨b', off', he, hc⟩
  · simp [cellsP] at h
  · cases he
    refine .inr ⟨b, off + 2, rfl, fun j u hu => ?_⟩
    have := hc (j + 2) u (by rw [cellsP_cons]; exact hu)
    rwa [show off + 2 + j = off + (j + 2) by omega]
def lenV : Value → Nat
  | .slice _ n _ => n
  | _ => 0
def AheadPost (A : Option Addr) (w : World) (x : Int) (L : List (Int × Int)) (e : Ending) (w' : World) : Prop :=
  ∃ A' c', e = .returned (.slice A' (dropB x L).length c') ∧ (∀ W, Row W A (cellsP L) → Row W A' (cellsP (dropB x L))) ∧ (dropB x L).length ≤ c' ∧ w = w'
set_option maxRecDepth 100000 in
set_option maxHeartbeats 1000000 in
theorem ahead_any (A : Option Addr) (n c : Nat) (x : Int) (L : List (Int × Int)) (w : World) (hA : Row w A (cellsP L)) (hz : n = L.length) (hc : n ≤ c) (hn : n ≤ 1000000) :
    Calls Try.prog 46 #[.slice A n c, .int .i64 x] w (AheadPost A w x L) := by
  have HZ := Lib.hid hz
  have HC := Lib.hid hc
  clear hz hc
  go_enter Try.func46, Try.ntmps46
  go_wp2_with fail
  go_loop [0] (fun v => ∃ (L' : List (Int × Int)) (m : Nat) (A' : Option Addr) (c' : Nat), v = .slice A' m c' ∧ m ≤ 1000000 ∧ Hid (m = L'.length) ∧ Hid (m ≤ c') ∧ Hid (∀ W, Row W A (cellsP L) → Row W A' (cellsP L')) ∧ Hid (dropB x L' = dropB x L)) (fun v => lenV v)
  case atStart => exact ⟨L, n, A, c, rfl, hn, HZ, HC, Lib.hid (fun _ h => h), Lib.hid rfl⟩
  case round =>
    obtain ⟨L', m, A', c', rfl, hm, HM, HC', HR, HD⟩ := hrel
    cases L' with
    | nil =>
      have h0 : m = 0 := HM.out
      subst h0
      clear hA
      go_wp2_with fail
      go_ret
      have hd : dropB x L = [] := by rw [← HD.out]; rfl
      exact ⟨A', c', by rw [hd]; rfl, fun W h => by rw [hd]; exact HR.out W h, by rw [hd]; exact Nat.zero_le _, rfl⟩
    | cons p L'' =>
      obtain ⟨b, off, hA', c0, c1⟩ := (HR.out w hA).at2 (k := 0) (by simp)
      subst hA'
      rw [Nat.zero_mul, Nat.add_zero] at c1
      obtain ⟨y, hy⟩ : ∃ y, y = p.2 := ⟨_, rfl⟩
      have hc1 : w.cell? ⟨b, off + 1, none⟩ = some (.int .i64 y) := by rw [hy]; exact c1
      have hm0 : 0 < m := by have := HM.out; simp at this; omega
      have hm1 : (0 : Int) < (m : Int) := by omega
      have HY := Lib.hid hy
      clear c0 c1 hy
      by_cases hx : y ≤ x
      · have HD2 := Lib.hid (show dropB x L'' = dropB x L by rw [← HD.out]; show _ = (if p.2 ≤ x then dropB x L'' else p :: L''); rw [if_pos (by rw [← HY.out]; exact hx)])
        have HM2 := Lib.hid (show m - 1 = L''.length by have := HM.out; simp at this; omega)
        have HRT := Lib.hid (show ∀ W, Row W A (cellsP L) → Row W (some ⟨b, off + 2, none⟩) (cellsP L'') from fun W h => (HR.out W h).tail)
        by_cases hcm : c' = 1
        · have h1 : m = 1 := by have := HC'.out; omega
          have HR0 := Lib.hid (show L'' = [] by have := HM2.out; rw [h1] at this; exact List.length_eq_zero_iff.1 this.symm)
          subst hcm h1
          go_wp2_with fail
          go_round
          case rel => exact ⟨L'', 0, _, _, rfl, by omega, HM2, Lib.hid (by omega), Lib.hid (fun W h => by rw [HR0.out]; exact .inl rfl), HD2⟩
          case measure => simp [lenV]
        · have hcm' : ¬ 1 = c' := fun h => hcm h.symm
          have hcc : m ≤ c' := HC'.out
          go_wp2_with fail
          go_round
          case rel => exact ⟨L'', m - 1, some ⟨b, off + 2, none⟩, c' - 1, rfl, by omega, HM2, Lib.hid (by omega), HRT, HD2⟩
          case measure => simp [lenV]; omega
      · have hd : dropB x L = p :: L'' := by rw [← HD.out]; show (if p.2 ≤ x then dropB x L'' else p :: L'') = _; rw [if_neg (by rw [← HY.out]; exact hx)]
        have HDD := Lib.hid hd
        clear hd hA
        go_wp2_with fail
        go_ret
        exact ⟨some ⟨b, off, none⟩, c', by rw [HDD.out, ← HM.out]; rfl, fun W h => by rw [HDD.out]; exact HR.out W h, by rw [HDD.out, ← HM.out]; exact HC'.out, rfl⟩
set_option maxRecDepth 100000 in
set_option maxHeartbeats 1000000 in
theorem begun_any (A : Option Addr) (n c : Nat) (x : Int) (L : List (Int × Int)) (w : World) (hA : Row w A (cellsP L)) (hz : n = L.length) (hn : n ≤ 1000000) :
    Calls Try.prog 47 #[.slice A n c, .int .i64 x] w fun e w' => e = .returned (.bool (begB x L)) ∧ w = w' := by
  cases L with
  | nil =>
    have h0 : n = 0 := hz
    subst h0
    show Calls Try.prog 47 _ w fun e w' => e = .returned (.bool false) ∧ w = w'
    clear hz hA
    go_enter Try.func47, Try.ntmps47
    go_wp2_with fail
    go_ret
    exact ⟨rfl, rfl⟩
  | cons p L =>
    obtain ⟨b, off, hA', c0, c1⟩ := hA.at2 (k := 0) (by simp)
    subst hA'
    rw [Nat.zero_mul, Nat.add_zero] at c0
    obtain ⟨y, hy⟩ : ∃ y, y = p.1 := ⟨_, rfl⟩
    have hc1 : w.cell? ⟨b, off, none⟩ = some (.int .i64 y) := by rw [hy]; exact c0
    have hm0 : 0 < n := by rw [hz]; simp
    have hm1 : (0 : Int) < (n : Int) := by omega
    show Calls Try.prog 47 _ w fun e w' => e = .returned (.bool (decide (p.1 ≤ x))) ∧ w = w'
    rw [← hy]
    clear c0 c1 hy hz hA
    by_cases hx : y ≤ x
    · rw [decide_eq_true hx]
      go_enter Try.func47, Try.ntmps47
      go_wp2_with fail
      go_ret
      exact ⟨rfl, rfl⟩
    · rw [decide_eq_false hx]
      have hd : decide (y ≤ x) = false := decide_eq_false hx
      clear hx
      go_enter Try.func47, Try.ntmps47
      go_wp2_with fail
      go_ret
      exact ⟨rfl, rfl⟩
end Go.Proofs.Ytohdkidfhohmlaa
