/- The sum of sums. -/
import Derived.Test.YthogafecplhckaaDoorCP
namespace Go.Proofs.YthogafecplhckaaDoor
open Go.RowKit
set_option linter.unusedSimpArgs false
set_option linter.unusedVariables false
theorem xor_div16 (a b : Nat) : (a ^^^ b) / 16 = a / 16 ^^^ b / 16 := by
  have h := Nat.shiftRight_xor_distrib (a := a) (b := b) (i := 4)
  simpa [Nat.shiftRight_eq_div_pow] using h
theorem xor_mod256 (a b : Nat) : (a ^^^ b) % 256 = a % 256 ^^^ b % 256 := by
  have h := Nat.xor_mod_two_pow (a := a) (b := b) (n := 8)
  simpa using h
theorem tab_lin2 : ∀ a < 16, ∀ b < 16, tabN.getD (a ^^^ b) 0 = tabN.getD a 0 ^^^ tabN.getD b 0 := by decide +kernel
theorem and15 (a b : Nat) : (a ^^^ b) &&& 15 = (a &&& 15) ^^^ (b &&& 15) := Nat.and_xor_distrib_right
theorem step_lin (s t h k : Nat) : stepN (s ^^^ t) (h ^^^ k) = stepN s h ^^^ stepN t k := by
  unfold stepN
  have e : (s ^^^ t) % 256 ^^^ (h ^^^ k) = (s % 256 ^^^ h) ^^^ (t % 256 ^^^ k) := by
    rw [xor_mod256]; ac_rfl
  rw [e, and15, xor_div16, tab_lin2 _ (Nat.lt_of_le_of_lt Nat.and_le_right (by omega)) _ (Nat.lt_of_le_of_lt Nat.and_le_right (by omega))]
  ac_rfl
/-- Three lists, bit by bit. -/
def xor3 : List Int → List Int → List Int → List Int
  | a :: xs, b :: ys, c :: zs => (((a.toNat ^^^ b.toNat ^^^ c.toNat : Nat)) : Int) :: xor3 xs ys zs
  | _, _, _ => []
theorem crc_lin : ∀ (xs ys zs : List Int) (s t u : Nat), xs.length = ys.length → ys.length = zs.length → crcN (s ^^^ t ^^^ u) (xor3 xs ys zs) = crcN s xs ^^^ crcN t ys ^^^ crcN u zs := by
  intro xs
  induction xs with
  | nil =>
    intro ys zs s t u h1 h2
    have hb : ys = [] := List.length_eq_zero_iff.1 h1.symm
    subst hb
    have hc : zs = [] := List.length_eq_zero_iff.1 h2.symm
    subst hc
    rfl
  | cons a xs ih =>
    intro ys zs s t u h1 h2
    match ys, zs, h1, h2 with
    | b :: ys, c :: zs, h1, h2 =>
      rw [xor3, crcN, crcN, crcN, crcN, Int.toNat_natCast, xor_div16, xor_div16, step_lin, step_lin, step_lin, step_lin]
      exact ih ys zs _ _ _ (by simpa using h1) (by simpa using h2)
theorem sum_lin {xs ys zs : List Int} (h1 : xs.length = ys.length) (h2 : ys.length = zs.length) :
    4294967295 - crcN 4294967295 (xor3 xs ys zs) = (4294967295 - crcN 4294967295 xs) ^^^ (4294967295 - crcN 4294967295 ys) ^^^ (4294967295 - crcN 4294967295 zs) := by
  have h := crc_lin xs ys zs 4294967295 4294967295 4294967295 h1 h2
  have e : (4294967295 : Nat) ^^^ 4294967295 ^^^ 4294967295 = 4294967295 := by decide
  rw [e] at h
  rw [← u32_flip (crc_lt _ _ (by omega)), ← u32_flip (crc_lt xs _ (by omega)), ← u32_flip (crc_lt ys _ (by omega)), ← u32_flip (crc_lt zs _ (by omega)), h]
  have e2 : ∀ x y z m : Nat, m ^^^ (x ^^^ y ^^^ z) = (m ^^^ x) ^^^ (m ^^^ y) ^^^ (m ^^^ z) := by
    intro x y z m
    have : (m ^^^ x) ^^^ (m ^^^ y) ^^^ (m ^^^ z) = (m ^^^ m) ^^^ (m ^^^ (x ^^^ y ^^^ z)) := by ac_rfl
    rw [this, Nat.xor_self, Nat.zero_xor]
  rw [e2]
theorem xor3_length : ∀ (xs ys zs : List Int), xs.length = ys.length → ys.length = zs.length → (xor3 xs ys zs).length = xs.length := by
  intro xs
  induction xs with
  | nil => intro ys zs _ _; rfl
  | cons a xs ih =>
    intro ys zs h1 h2
    match ys, zs, h1, h2 with
    | b :: ys, c :: zs, h1, h2 => rw [xor3, List.length_cons, List.length_cons, ih ys zs (by simpa using h1) (by simpa using h2)]
theorem xor3_take : ∀ (xs ys zs : List Int) (k : Nat) (h1 : k < xs.length) (h2 : k < ys.length) (h3 : k < zs.length), xor3 (xs.take (k + 1)) (ys.take (k + 1)) (zs.take (k + 1)) = xor3 (xs.take k) (ys.take k) (zs.take k) ++ [((xs[k].toNat ^^^ ys[k].toNat ^^^ zs[k].toNat : Nat) : Int)] := by
  intro xs
  induction xs with
  | nil => intro ys zs k h1; simp at h1
  | cons a xs ih =>
    intro ys zs k h1 h2 h3
    match ys, zs, h2, h3 with
    | b :: ys, c :: zs, h2, h3 =>
      cases k with
      | zero => simp [xor3]
      | succ k =>
        rw [List.take_succ_cons, List.take_succ_cons, List.take_succ_cons, xor3, ih ys zs k (by simpa using h1) (by simpa using h2) (by simpa using h3)]
        simp [xor3]
theorem xor3_bytes : ∀ (xs ys zs : List Int), bytes xs → bytes ys → bytes zs → bytes (xor3 xs ys zs) := by
  intro xs
  induction xs with
  | nil => intro ys zs _ _ _ x hx; simp [xor3] at hx
  | cons a xs ih =>
    intro ys zs h1 h2 h3
    match ys, zs with
    | [], _ => intro x hx; simp [xor3] at hx
    | _ :: _, [] => intro x hx; simp [xor3] at hx
    | b :: ys, c :: zs =>
      intro x hx
      rw [xor3] at hx
      rcases List.mem_cons.1 hx with rfl | hx
      · have e1 := h1 a (by simp)
        have e2 := h2 b (by simp)
        have e3 := h3 c (by simp)
        have := Nat.xor_lt_two_pow (n := 8) (Nat.xor_lt_two_pow (n := 8) (x := a.toNat) (y := b.toNat) (by omega) (by omega)) (show c.toNat < 2 ^ 8 by omega)
        omega
      · exact ih ys zs (fun x hx => h1 x (by simp [hx])) (fun x hx => h2 x (by simp [hx])) (fun x hx => h3 x (by simp [hx])) x hx
end Go.Proofs.YthogafecplhckaaDoor
