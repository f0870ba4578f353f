/- What number a list of bytes begins with: plain facts. -/
import Derived.Test.YtgegmbkjkiifaaaGC
namespace Go.Proofs.Ytgegmbkjkiifaaa
open Go.RowKit
def numAux : Nat → Nat → List Int → Option (Nat × Nat)
  | _, _, [] => none
  | i, u, c :: cs => if (i = 0 ∧ c = 128) ∨ 144115188075855871 < u then none else if c < 128 then some (u * 128 + (c % 128).toNat, i + 1) else numAux (i + 1) (u * 128 + (c % 128).toNat) cs
theorem num_stop {i u : Nat} {c : Int} {cs : List Int} (h : (i = 0 ∧ c = 128) ∨ 144115188075855871 < u) : numAux i u (c :: cs) = none := by rw [numAux, if_pos h]
theorem num_end {i u : Nat} {c : Int} {cs : List Int} (h : ¬ ((i = 0 ∧ c = 128) ∨ 144115188075855871 < u)) (hc : c < 128) : numAux i u (c :: cs) = some (u * 128 + (c % 128).toNat, i + 1) := by rw [numAux, if_neg h, if_pos hc]
theorem num_go {i u : Nat} {c : Int} {cs : List Int} (h : ¬ ((i = 0 ∧ c = 128) ∨ 144115188075855871 < u)) (hc : ¬ c < 128) : numAux i u (c :: cs) = numAux (i + 1) (u * 128 + (c % 128).toNat) cs := by rw [numAux, if_neg h, if_neg hc]
/-- The number, and how many bytes it has; 0 bytes: there is none. -/
def numP (bs : List Int) : Int × Nat := match numAux 0 0 bs with | none => (0, 0) | some (u, k) => (unfoldZ u, k)
def bytes (bs : List Int) : Prop := ∀ x ∈ bs, 0 ≤ x ∧ x ≤ 255
theorem num_le (cs : List Int) : ∀ (i u v k : Nat), numAux i u cs = some (v, k) → i < k ∧ k ≤ i + cs.length ∧ v ≤ 18446744073709551615 := by
  induction cs with
  | nil => intro i u v k h; simp [numAux] at h
  | cons c cs ih =>
    intro i u v k h
    by_cases h1 : (i = 0 ∧ c = 128) ∨ 144115188075855871 < u
    · rw [num_stop h1] at h; cases h
    · by_cases h2 : c < 128
      · rw [num_end h1 h2] at h
        simp only [Option.some.injEq, Prod.mk.injEq] at h
        have := Int.emod_lt_of_pos c (show (0 : Int) < 128 by omega)
        have := Int.emod_nonneg c (show (128 : Int) ≠ 0 by omega)
        rw [List.length_cons]; omega
      · rw [num_go h1 h2] at h
        have := ih _ _ _ _ h
        rw [List.length_cons]; omega
theorem u8_mask (c : Int) (h0 : 0 ≤ c) (h1 : c ≤ 255) : bits .and .u8 c 127 = c % 128 := by
  rw [u8_and c 127 h0 (by omega) (by omega) (by omega)]
  have : (127 : Int).toNat = 127 := rfl
  rw [this, nat_mask7]; omega
theorem u64_join (u c : Int) (h0 : 0 ≤ u) (h1 : u ≤ 144115188075855871) (h2 : 0 ≤ c) (h3 : c < 128) : bits .or .u64 (u * 128) c = u * 128 + c := by
  rw [u64_or _ _ (by omega) (by omega) h2 (by omega), nat_join 7 _ _ (by omega) (by omega)]; omega
end Go.Proofs.Ytgegmbkjkiifaaa
