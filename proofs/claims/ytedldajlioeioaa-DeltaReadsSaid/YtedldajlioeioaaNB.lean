/- Bits of numbers, packed into bytes: plain facts. -/
import Derived.Laws.BitsAllLaws
namespace Go.Proofs.Ytedldajlioeioaa
set_option linter.unusedVariables false
/-- The number whose bits a function gives, from a place on. -/
def numF (f : Nat → Nat) (at_ : Nat) : Nat → Nat
  | 0 => 0
  | w + 1 => numF f at_ w + f (at_ + w) * 2 ^ w
theorem numF_lt {f : Nat → Nat} (hf : ∀ k, f k ≤ 1) (a : Nat) : ∀ w, numF f a w < 2 ^ w := by
  intro w
  induction w with
  | zero => simp [numF]
  | succ w ih =>
    have h1 : f (a + w) * 2 ^ w ≤ 1 * 2 ^ w := Nat.mul_le_mul_right _ (hf _)
    rw [numF, Nat.pow_succ]; omega
theorem numF_head (f : Nat → Nat) (a : Nat) : ∀ w, numF f a (w + 1) = f a + 2 * numF f (a + 1) w := by
  intro w
  induction w with
  | zero => simp [numF]
  | succ w ih =>
    rw [numF, ih, numF, show a + (w + 1) = a + 1 + w from by omega, Nat.pow_succ, Nat.mul_add, ← Nat.mul_assoc]
    omega
theorem numF_congr {f g : Nat → Nat} {a w : Nat} (h : ∀ i, i < w → f (a + i) = g (a + i)) : numF f a w = numF g a w := by
  induction w with
  | zero => rfl
  | succ w ih => rw [numF, numF, ih (fun i hi => h i (by omega)), h w (by omega)]
theorem numF_bit {f : Nat → Nat} (hf : ∀ k, f k ≤ 1) (a : Nat) : ∀ w i, i < w → numF f a w / 2 ^ i % 2 = f (a + i) := by
  intro w
  induction w with
  | zero => intro i h; omega
  | succ w ih =>
    intro i hi
    rw [numF]
    rcases Nat.lt_or_ge i w with h | h
    · obtain ⟨d, hd⟩ : ∃ d, w = i + 1 + d := ⟨w - i - 1, by omega⟩
      have e : f (a + w) * 2 ^ w = 2 ^ i * (2 * (f (a + w) * 2 ^ d)) := by
        rw [hd, Nat.pow_add, Nat.pow_succ]
        generalize f (a + (i + 1 + d)) = q; rw [Nat.mul_comm, Nat.mul_assoc, Nat.mul_assoc, Nat.mul_comm (2 ^ d) q]
      rw [e, Nat.add_mul_div_left _ _ (Nat.pow_pos (by omega)), Nat.add_mul_mod_self_left]
      exact ih i h
    · obtain rfl : i = w := by omega
      rw [Nat.mul_comm, Nat.add_mul_div_left _ _ (Nat.pow_pos (by omega)), Nat.div_eq_of_lt (numF_lt hf a i), Nat.zero_add]
      have := hf (a + i); omega
theorem numF_of {f : Nat → Nat} {a x : Nat} : ∀ w, (∀ i, i < w → f (a + i) = x / 2 ^ i % 2) → numF f a w = x % 2 ^ w := by
  intro w
  induction w with
  | zero => intro _; simp [numF, Nat.mod_one]
  | succ w ih =>
    intro h
    rw [numF, ih (fun i hi => h i (by omega)), h w (by omega), Nat.pow_succ, Nat.mod_mul, Nat.mul_comm]
theorem numF_add (f : Nat → Nat) (a v : Nat) : ∀ w, numF f a (v + w) = numF f a v + 2 ^ v * numF f (a + v) w := by
  intro w
  induction w with
  | zero => simp [numF]
  | succ w ih =>
    rw [← Nat.add_assoc, numF, ih, numF, Nat.mul_add, Nat.pow_add, Nat.add_assoc a v w]
    rw [Nat.add_assoc]; congr 2
    rw [Nat.mul_left_comm]
/-- The byte at a place, when so many bits are packed. -/
def byteF (f : Nat → Nat) (t j : Nat) : Nat := numF f (8 * j) (min 8 (t - 8 * j))
theorem byteF_lt {f : Nat → Nat} (hf : ∀ k, f k ≤ 1) (t j : Nat) : byteF f t j < 256 := by
  have h := numF_lt hf (8 * j) (min 8 (t - 8 * j))
  have : 2 ^ min 8 (t - 8 * j) ≤ 2 ^ 8 := Nat.pow_le_pow_right (by omega) (Nat.min_le_left _ _)
  unfold byteF; omega
theorem byteF_at {f : Nat → Nat} (t : Nat) : byteF f (t + 1) (t / 8) = byteF f t (t / 8) + f t * 2 ^ (t % 8) := by
  unfold byteF
  have e1 : min 8 (t + 1 - 8 * (t / 8)) = t % 8 + 1 := by omega
  have e2 : min 8 (t - 8 * (t / 8)) = t % 8 := by omega
  rw [e1, e2, numF, show 8 * (t / 8) + t % 8 = t from by omega]
theorem byteF_small {f : Nat → Nat} (hf : ∀ k, f k ≤ 1) (t : Nat) : byteF f t (t / 8) < 2 ^ (t % 8) := by
  unfold byteF
  rw [show min 8 (t - 8 * (t / 8)) = t % 8 from by omega]
  exact numF_lt hf _ _
theorem byteF_other {f : Nat → Nat} {t j : Nat} (h : j ≠ t / 8) : byteF f (t + 1) j = byteF f t j := by
  unfold byteF
  rw [show min 8 (t + 1 - 8 * j) = min 8 (t - 8 * j) from by omega]
theorem byteF_none {f : Nat → Nat} {t j : Nat} (h : t ≤ 8 * j) : byteF f t j = 0 := by
  unfold byteF
  rw [show min 8 (t - 8 * j) = 0 from by omega]; rfl
/-- The bytes of a list of bits, in so many bytes. -/
def packS (f : Nat → Nat) (t size : Nat) : List Int := (List.range size).map (fun j => (byteF f t j : Int))
theorem packS_length (f : Nat → Nat) (t size : Nat) : (packS f t size).length = size := by simp [packS]
theorem packS_get {f : Nat → Nat} {t size j : Nat} (h : j < size) : (packS f t size)[j]? = some (byteF f t j : Int) := by simp [packS, h]
theorem packS_zero (f : Nat → Nat) (size : Nat) : packS f 0 size = List.replicate size 0 := by
  apply List.ext_getElem
  · simp [packS]
  · intro i h1 h2
    simp [packS, byteF_none]
theorem packS_step {f : Nat → Nat} {t size : Nat} (h : t / 8 < size) : packS f (t + 1) size = (packS f t size).set (t / 8) ((byteF f t (t / 8) + f t * 2 ^ (t % 8) : Nat) : Int) := by
  apply List.ext_getElem?
  intro i
  rw [List.getElem?_set, packS_length]
  rcases Nat.lt_or_ge i size with hi | hi
  · rw [packS_get hi, packS_get hi]
    by_cases e : t / 8 = i
    · subst e; rw [if_pos rfl, if_pos h, byteF_at]
    · rw [if_neg e, byteF_other (fun h => e h.symm)]
  · rw [List.getElem?_eq_none (by rw [packS_length]; exact hi), if_neg (by omega), List.getElem?_eq_none (by rw [packS_length]; exact hi)]
theorem packS_grow {f : Nat → Nat} {t : Nat} (h : t % 8 = 0) : packS f t (t / 8) ++ [0] = packS f t (t / 8 + 1) := by
  unfold packS
  rw [List.range_succ, List.map_append]
  simp [byteF_none (show t ≤ 8 * (t / 8) by omega)]
/-- A bit of bytes. -/
def bitB (b : List Int) (k : Nat) : Nat := (b.getD (k / 8) 0).toNat / 2 ^ (k % 8) % 2
theorem bitB_le (b : List Int) (k : Nat) : bitB b k ≤ 1 := by unfold bitB; omega
/-- A bit of numbers in a width. -/
def bitL (l : List Nat) (w k : Nat) : Nat := l.getD (k / w) 0 / 2 ^ (k % w) % 2
theorem bitL_le (l : List Nat) (w k : Nat) : bitL l w k ≤ 1 := by unfold bitL; omega
theorem bitL_at {l : List Nat} {w j i : Nat} (h : i < w) : bitL l w (j * w + i) = l.getD j 0 / 2 ^ i % 2 := by
  unfold bitL
  rw [Nat.mul_comm, Nat.mul_add_div (by omega), Nat.mul_add_mod, Nat.div_eq_of_lt h, Nat.mod_eq_of_lt h, Nat.add_zero]
theorem bitB_pack {f : Nat → Nat} (hf : ∀ k, f k ≤ 1) {t size k : Nat} (h : k < t) (hs : t ≤ 8 * size) : bitB (packS f t size) k = f k := by
  unfold bitB
  rw [List.getD_eq_getElem?_getD, packS_get (by omega), Option.getD_some, Int.toNat_natCast]
  unfold byteF
  rw [numF_bit hf _ _ _ (by omega), show 8 * (k / 8) + k % 8 = k from by omega]
theorem bitB_pad {f : Nat → Nat} (hf : ∀ k, f k ≤ 1) {t size k : Nat} (h : t ≤ k) : bitB (packS f t size) k = 0 := by
  unfold bitB
  rw [List.getD_eq_getElem?_getD]
  rcases Nat.lt_or_ge (k / 8) size with h1 | h1
  · rw [packS_get h1, Option.getD_some, Int.toNat_natCast]
    unfold byteF
    have h2 := numF_lt hf (8 * (k / 8)) (min 8 (t - 8 * (k / 8)))
    have h3 : 2 ^ min 8 (t - 8 * (k / 8)) ≤ 2 ^ (k % 8) := Nat.pow_le_pow_right (by omega) (by omega)
    rw [Nat.div_eq_of_lt (by omega)]
  · rw [List.getElem?_eq_none (by rw [packS_length]; exact h1)]; simp
theorem num_pack {l : List Nat} {w size j : Nat} (hs : l.length * w ≤ 8 * size) (hj : j < l.length) (hl : l.getD j 0 < 2 ^ w) : numF (bitB (packS (bitL l w) (l.length * w) size)) (j * w) w = l.getD j 0 := by
  have hjw : j * w + w ≤ l.length * w := by rw [← Nat.succ_mul]; exact Nat.mul_le_mul_right _ hj
  rw [numF_of (x := l.getD j 0) w (fun i hi => by rw [bitB_pack (bitL_le l w) (by omega) hs, bitL_at hi]), Nat.mod_eq_of_lt hl]
theorem num_pad {l : List Nat} {w size n : Nat} : ∀ v, numF (bitB (packS (bitL l w) n size)) n v = 0 := by
  intro v
  have := numF_of (f := bitB (packS (bitL l w) n size)) (a := n) (x := 0) v (fun i hi => by rw [bitB_pad (bitL_le l w) (by omega)]; simp)
  rw [this]; simp
/-- Bytes are the number of their own bits. -/
theorem byte_bits {b : List Int} {j : Nat} (h0 : 0 ≤ b.getD j 0) (h1 : b.getD j 0 ≤ 255) : numF (bitB b) (8 * j) 8 = (b.getD j 0).toNat := by
  rw [numF_of (x := (b.getD j 0).toNat) 8 (fun i hi => by unfold bitB; rw [show (8 * j + i) / 8 = j from by omega, show (8 * j + i) % 8 = i from by omega])]
  exact Nat.mod_eq_of_lt (by omega)
/-- What is unpacked and packed again is the bytes, just if nothing stands behind the last bit. -/
theorem again {b : List Int} {n w : Nat} (hw : 0 < w) (hb : ∀ x ∈ b, 0 ≤ x ∧ x ≤ 255) (hl : b.length = (n * w + 7) / 8) {l : List Nat} (hn : l.length = n) (hg : ∀ j, j < n → l.getD j 0 = numF (bitB b) (j * w) w) :
    (packS (bitL l w) (n * w) ((n * w + 7) / 8) = b ↔ numF (bitB b) (n * w) (8 * ((n * w + 7) / 8) - n * w) = 0) := by
  have hbit : ∀ k, k < n * w → bitL l w k = bitB b k := by
    intro k hk
    have h1 : k / w < n := (Nat.div_lt_iff_lt_mul hw).2 hk
    have h2 : k % w < w := Nat.mod_lt _ hw
    have h3 : k = k / w * w + k % w := by rw [Nat.mul_comm]; exact (Nat.div_add_mod k w).symm
    rw [h3, bitL_at h2, hg _ h1, numF_bit (bitB_le b) _ _ _ h2]
  have hby : ∀ j, j < b.length → numF (bitB b) (8 * j) 8 = (b.getD j 0).toNat ∧ 0 ≤ b.getD j 0 := by
    intro j hj
    have hm := hb b[j] (List.getElem_mem hj)
    have e : b.getD j 0 = b[j] := by rw [List.getD_eq_getElem?_getD, List.getElem?_eq_getElem hj]; rfl
    exact ⟨byte_bits (by rw [e]; exact hm.1) (by rw [e]; exact hm.2), by rw [e]; exact hm.1⟩
  generalize hN : n * w = N at *
  have hbyte : ∀ j, byteF (bitL l w) N j = numF (bitB b) (8 * j) (min 8 (N - 8 * j)) := by
    intro j
    exact numF_congr (fun i hi => hbit _ (by omega))
  constructor
  · intro h
    rcases Nat.eq_zero_or_pos (N % 8) with h0 | h0
    · rw [show 8 * ((N + 7) / 8) - N = 0 from by omega]; rfl
    · have hj : N / 8 < b.length := by omega
      have e := hbyte (N / 8)
      have e2 : b.getD (N / 8) 0 = (byteF (bitL l w) N (N / 8) : Int) := by
        have e3 := congrArg (fun m => m[N / 8]?) h
        rw [packS_get (by omega)] at e3
        rw [List.getD_eq_getElem?_getD, ← e3]; rfl
      have e4 := (hby _ hj).1
      rw [e2, Int.toNat_natCast, e, show min 8 (N - 8 * (N / 8)) = N % 8 from by omega] at e4
      have e5 := numF_add (bitB b) (8 * (N / 8)) (N % 8) (8 - N % 8)
      rw [show N % 8 + (8 - N % 8) = 8 from by omega, e4, show 8 * (N / 8) + N % 8 = N from by omega] at e5
      have h6 : 2 ^ (N % 8) * numF (bitB b) N (8 - N % 8) = 0 := by omega
      rw [show 8 * ((N + 7) / 8) - N = 8 - N % 8 from by omega]
      rcases Nat.mul_eq_zero.1 h6 with h7 | h7
      · exact absurd h7 (Nat.ne_of_gt (Nat.pow_pos (by omega)))
      · exact h7
  · intro h
    apply List.ext_getElem?
    intro j
    rcases Nat.lt_or_ge j b.length with hj | hj
    · rw [packS_get (by omega), hbyte]
      have h1 := hby j hj
      have e6 : b[j]? = some (b.getD j 0) := by rw [List.getD_eq_getElem?_getD, List.getElem?_eq_getElem hj]; rfl
      rw [e6]
      congr 1
      have h2 : numF (bitB b) (8 * j) (min 8 (N - 8 * j)) = (b.getD j 0).toNat := by
        rw [← h1.1]
        rcases Nat.lt_or_ge (8 * j + 8) (N + 1) with h3 | h3
        · rw [show min 8 (N - 8 * j) = 8 from by omega]
        · have h4 : 8 * ((N + 7) / 8) - N = 8 - N % 8 ∧ N / 8 = j ∧ min 8 (N - 8 * j) = N % 8 := by omega
          obtain ⟨h4, h5, h6⟩ := h4
          rw [h4] at h
          have e5 := numF_add (bitB b) (8 * j) (N % 8) (8 - N % 8)
          rw [show N % 8 + (8 - N % 8) = 8 from by omega, show 8 * j + N % 8 = N from by omega, h] at e5
          rw [h6]; omega
      rw [h2]; omega
    · rw [List.getElem?_eq_none (by rw [packS_length]; omega), List.getElem?_eq_none hj]
end Go.Proofs.Ytedldajlioeioaa
