/- There and back: what a number's bytes are read as, and which bytes are read as one: plain facts. -/
import Derived.Test.YtgegmbkjkiifaaaGL
namespace Go.Proofs.Ytgegmbkjkiifaaa
open Go.RowKit
theorem div_step (u r : Nat) : u / 128 ^ (r + 1) * 128 + u / 128 ^ r % 128 = u / 128 ^ r := by
  rw [Nat.pow_succ, ← Nat.div_div_eq_div_mul]; omega
theorem dig_head_more (u r : Nat) (h : 0 < r) : digZ (r + 1) u = ((u / 128 ^ r % 128 + 128 : Nat) : Int) :: digZ r u := by rw [digZ, if_pos h]
theorem dig_head_last (u : Nat) : digZ 1 u = [((u % 128 : Nat) : Int)] := by simp [digZ]
theorem num_dig (u : Nat) (hu : u < 2 ^ 64) (rest : List Int) : ∀ r i : Nat, (i = 0 → r = 0 ∨ u / 128 ^ r % 128 ≠ 0) →
    numAux i (u / 128 ^ (r + 1)) (digZ (r + 1) u ++ rest) = some (u, i + r + 1) := by
  intro r
  induction r with
  | zero =>
    intro i _
    rw [dig_head_last, List.singleton_append, num_end (by omega) (by omega)]
    have : ((((u % 128 : Nat) : Int)) % 128).toNat = u % 128 := by omega
    rw [this]
    simp; omega
  | succ r ih =>
    intro i h
    rw [dig_head_more u (r + 1) (by omega), List.cons_append]
    have h1 : u / 128 ^ (r + 1 + 1) ≤ 144115188075855871 := by
      have e : u / 128 ^ (r + 1 + 1) ≤ u / 128 := by
        rw [Nat.pow_succ, Nat.mul_comm, ← Nat.div_div_eq_div_mul]; exact Nat.div_le_self _ _
      omega
    rw [num_go (by omega) (by omega)]
    have e2 : ((((u / 128 ^ (r + 1) % 128 + 128 : Nat) : Int)) % 128).toNat = u / 128 ^ (r + 1) % 128 := by omega
    rw [e2, div_step, ih (i + 1) (by omega)]
    rw [show i + 1 + r + 1 = i + (r + 1) + 1 from by omega]
theorem num_enc (u : Nat) (hu : u < 2 ^ 64) (rest : List Int) : numAux 0 0 (encI u ++ rest) = some (u, groupsZ u) := by
  have hb := groups_bd u
  have hh := groups_hi u hu
  obtain ⟨r, hr⟩ : ∃ r, groupsZ u = r + 1 := ⟨groupsZ u - 1, by omega⟩
  rw [enc_dig, hr]
  have h0 : u / 128 ^ (r + 1) = 0 := Nat.div_eq_of_lt (by rw [← hr]; exact hh)
  have := num_dig u hu rest r 0 (fun _ => by
    rcases Nat.eq_zero_or_pos r with h | h
    · exact .inl h
    · right
      have hl := groups_lo u (by omega)
      rw [hr, Nat.add_sub_cancel] at hl
      have h1 : 1 ≤ u / 128 ^ r := (Nat.one_le_div_iff (Nat.pow_pos (by omega))).2 hl
      have h2 := div_step u r
      rw [h0] at h2
      omega)
  rw [h0] at this
  rw [this]; simp
theorem numP_enc {v : Int} (h1 : -9223372036854775808 ≤ v) (h2 : v ≤ 9223372036854775807) (rest : List Int) : numP (encV v ++ rest) = (v, groupsZ (foldZ v).toNat) := by
  have hb := fold_bd h1 h2
  unfold numP encV
  rw [num_enc _ (by omega)]
  show (unfoldZ ((foldZ v).toNat : Int), _) = _
  rw [Int.toNat_of_nonneg hb.1, unfold_fold]
theorem num_inv (bs : List Int) : ∀ i a v k : Nat, bytes bs → numAux i a bs = some (v, k) → ∃ r, k = i + r ∧ 0 < r ∧ bs.take r = digZ r v ∧ v / 128 ^ r = a ∧ (i = 0 → r = 1 ∨ v / 128 ^ (r - 1) % 128 ≠ 0) := by
  induction bs with
  | nil => intro i a v k _ h; simp [numAux] at h
  | cons c cs ih =>
    intro i a v k hb h
    have hc := hb c (by simp)
    by_cases h1 : (i = 0 ∧ c = 128) ∨ 144115188075855871 < a
    · rw [num_stop h1] at h; cases h
    · by_cases h2 : c < 128
      · rw [num_end h1 h2] at h
        simp only [Option.some.injEq, Prod.mk.injEq] at h
        refine ⟨1, by omega, by omega, ?_, by simp; omega, fun _ => .inl rfl⟩
        rw [dig_head_last, List.take_succ_cons, List.take_zero]
        congr 1; omega
      · rw [num_go h1 h2] at h
        obtain ⟨r, hk, hr, ht, hd, -⟩ := ih _ _ _ _ (fun x hx => hb x (by simp [hx])) h
        have hs := div_step v r
        refine ⟨r + 1, by omega, by omega, ?_, by omega, fun hi => .inr ?_⟩
        · rw [dig_head_more v r hr, List.take_succ_cons, ht]
          congr 1; omega
        · rw [Nat.add_sub_cancel]; omega
theorem groups_eq {v k : Nat} (h1 : v < 128 ^ k) (h2 : 0 < k) (h3 : k = 1 ∨ 128 ^ (k - 1) ≤ v) (hv : v < 2 ^ 64) : groupsZ v = k := by
  have hb := groups_bd v
  have hh := groups_hi v hv
  rcases Nat.lt_trichotomy (groupsZ v) k with h | h | h
  · rcases h3 with h3 | h3
    · omega
    · have : 128 ^ groupsZ v ≤ 128 ^ (k - 1) := Nat.pow_le_pow_right (by omega) (by omega)
      omega
  · exact h
  · have hl := groups_lo v (by omega)
    have : 128 ^ k ≤ 128 ^ (groupsZ v - 1) := Nat.pow_le_pow_right (by omega) (by omega)
    omega
/-- One way: a number that is read of bytes has just those bytes. -/
theorem numP_back {bs : List Int} {v : Int} {l : Nat} (hb : bytes bs) (h : numP bs = (v, l)) (hl : 0 < l) : encV v = bs.take l := by
  unfold numP at h
  cases hn : numAux 0 0 bs with
  | none => rw [hn] at h; simp only [Prod.mk.injEq] at h; omega
  | some p =>
    obtain ⟨u, k⟩ := p
    rw [hn] at h
    simp only [Prod.mk.injEq] at h
    obtain ⟨rfl, rfl⟩ := h
    have hle := num_le bs 0 0 u k hn
    obtain ⟨r, hk, hr, ht, hd, hz⟩ := num_inv bs 0 0 u k hb hn
    have hkr : k = r := by omega
    subst hkr
    have hu : u < 128 ^ k := by
      rcases Nat.lt_or_ge u (128 ^ k) with h | h
      · exact h
      · have := (Nat.one_le_div_iff (Nat.pow_pos (by omega : 0 < 128))).2 h; omega
    have hlo : k = 1 ∨ 128 ^ (k - 1) ≤ u := by
      rcases hz rfl with h | h
      · exact .inl h
      · right
        rcases Nat.lt_or_ge u (128 ^ (k - 1)) with h2 | h2
        · rw [Nat.div_eq_of_lt h2] at h; simp at h
        · exact h2
    have hg := groups_eq hu hr hlo (by omega)
    unfold encV
    rw [fold_unfold (by omega), Int.toNat_natCast, enc_dig, hg, ht]
end Go.Proofs.Ytgegmbkjkiifaaa
