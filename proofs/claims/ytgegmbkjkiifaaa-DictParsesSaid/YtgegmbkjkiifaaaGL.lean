/- The longer the greater: plain facts on the bytes of numbers. -/
import Derived.Test.YtgegmbkjkiifaaaGK
namespace Go.Proofs.Ytgegmbkjkiifaaa
open Go.RowKit
theorem groups_hi (u : Nat) (h : u < 2 ^ 64) : u < 128 ^ groupsZ u := by
  have h1 : u < 2 ^ Lib.bitLen u := bitLenAux_lt 64 u h
  have h2 : Lib.bitLen u ≤ 7 * groupsZ u := by unfold groupsZ; omega
  have h3 : 2 ^ Lib.bitLen u ≤ 2 ^ (7 * groupsZ u) := Nat.pow_le_pow_right (by omega) h2
  rw [Nat.pow_mul] at h3
  exact Nat.lt_of_lt_of_le h1 h3
theorem groups_lo (u : Nat) (h : 1 < groupsZ u) : 128 ^ (groupsZ u - 1) ≤ u := by
  have h0 : u ≠ 0 := by
    intro e; subst e
    have : groupsZ 0 = 1 := groups_small (by omega)
    omega
  have h1 : 2 ^ (Lib.bitLen u - 1) ≤ u := bitLenAux_ge 64 u h0 (by omega)
  have h2 : 7 * (groupsZ u - 1) ≤ Lib.bitLen u - 1 := by unfold groupsZ at h ⊢; omega
  have h3 : 2 ^ (7 * (groupsZ u - 1)) ≤ 2 ^ (Lib.bitLen u - 1) := Nat.pow_le_pow_right (by omega) h2
  rw [Nat.pow_mul] at h3
  exact Nat.le_trans h3 h1
theorem groups_mono {u v : Nat} (h : u ≤ v) (hv : v < 2 ^ 64) : groupsZ u ≤ groupsZ v := by
  rcases Nat.lt_or_ge (groupsZ v) (groupsZ u) with hlt | hge
  · have h1 := (groups_bd v).1
    have h2 := groups_lo u (by omega)
    have h3 := groups_hi v hv
    have h4 : 128 ^ groupsZ v ≤ 128 ^ (groupsZ u - 1) := Nat.pow_le_pow_right (by omega) (by omega)
    omega
  · exact hge
/-- The last r bytes of a number. -/
def digZ : Nat → Nat → List Int
  | 0, _ => []
  | r + 1, u => ((u / 128 ^ r % 128 + if 0 < r then 128 else 0 : Nat) : Int) :: digZ r u
theorem digZ_eq (u G : Nat) : ∀ r, r ≤ G → (List.range r).map (fun i => byteI u G (G - r + i)) = digZ r u := by
  intro r
  induction r with
  | zero => intro _; rfl
  | succ r ih =>
    intro h
    rw [List.range_succ_eq_map, List.map_cons, List.map_map, digZ]
    congr 1
    · unfold byteI
      rw [Nat.pow_mul, show G - 1 - (G - (r + 1) + 0) = r from by omega]
      have e : (G - (r + 1) + 0 + 1 < G) ↔ 0 < r := by omega
      have e2 : (2 : Nat) ^ 7 = 128 := rfl
      rw [e2]
      by_cases h0 : 0 < r
      · rw [if_pos (e.2 h0), if_pos h0]
      · rw [if_neg (fun h => h0 (e.1 h)), if_neg h0]
    · rw [← ih (by omega)]
      apply List.map_congr_left
      intro i _
      show byteI u G (G - (r + 1) + (i + 1)) = byteI u G (G - r + i)
      rw [show G - (r + 1) + (i + 1) = G - r + i from by omega]
theorem enc_dig (u : Nat) : encI u = digZ (groupsZ u) u := by
  rw [← digZ_eq u (groupsZ u) (groupsZ u) (Nat.le_refl _), Nat.sub_self]
  unfold encI
  apply List.map_congr_left
  intro i _
  rw [Nat.zero_add]
def lessZ : List Int → List Int → Bool
  | _, [] => false
  | [], _ :: _ => true
  | a :: x, b :: y => decide (a < b) || (decide (a = b) && lessZ x y)
theorem mod_pow_succ (u r : Nat) : u % 128 ^ (r + 1) = u / 128 ^ r % 128 * 128 ^ r + u % 128 ^ r := by
  rw [Nat.pow_succ, Nat.mod_mul]
  rw [Nat.mul_comm (128 ^ r), Nat.add_comm]
theorem dig_less (u v : Nat) : ∀ r, u % 128 ^ r < v % 128 ^ r → lessZ (digZ r u) (digZ r v) = true := by
  intro r
  induction r with
  | zero => intro h; simp at h; omega
  | succ r ih =>
    intro h
    rw [mod_pow_succ, mod_pow_succ] at h
    have hp : 0 < 128 ^ r := Nat.pow_pos (by omega)
    have h1 := Nat.mod_lt u hp
    have h2 := Nat.mod_lt v hp
    generalize hq : u / 128 ^ r % 128 = p at *
    generalize hq2 : v / 128 ^ r % 128 = q at *
    rw [digZ, digZ, lessZ, hq, hq2]
    rcases Nat.lt_trichotomy p q with hlt | heq | hgt
    · rw [Bool.or_eq_true]; left
      simp only [decide_eq_true_eq]; split <;> omega
    · subst heq
      have := ih (by omega)
      simp [this]
    · exfalso
      have h3 : (q + 1) * 128 ^ r ≤ p * 128 ^ r := Nat.mul_le_mul_right _ hgt
      rw [Nat.add_mul] at h3
      omega
theorem less_irrefl_ne : ∀ {x y : List Int}, lessZ x y = true → x ≠ y := by
  intro x
  induction x with
  | nil => intro y h e; subst e; simp [lessZ] at h
  | cons a x ih =>
    intro y h e; subst e
    rw [lessZ] at h
    have h2 : lessZ x x = true := by simpa using h
    exact ih h2 rfl
/-- Of two lesser folded numbers: fewer bytes, or as many and below. -/
theorem enc_less {u v : Nat} (h : u < v) (hv : v < 2 ^ 64) : groupsZ u < groupsZ v ∨ (groupsZ u = groupsZ v ∧ lessZ (encI u) (encI v) = true) := by
  rcases Nat.lt_or_eq_of_le (groups_mono (Nat.le_of_lt h) hv) with hlt | heq
  · exact .inl hlt
  · refine .inr ⟨heq, ?_⟩
    rw [enc_dig, enc_dig, heq]
    have h1 := groups_hi u (by omega)
    have h2 := groups_hi v hv
    rw [heq] at h1
    exact dig_less u v _ (by rw [Nat.mod_eq_of_lt h1, Nat.mod_eq_of_lt h2]; exact h)
theorem byteI_bd (u G i : Nat) : 0 ≤ byteI u G i ∧ byteI u G i ≤ 255 := by
  unfold byteI; split <;> omega
theorem encI_bytes (u : Nat) : bytes (encI u) := by
  intro x hx
  simp only [encI, List.mem_map] at hx
  obtain ⟨i, _, rfl⟩ := hx
  exact byteI_bd _ _ _
/-- The bytes of a shorter one do not begin a longer one's. -/
theorem enc_prefix {u v : Nat} (h : groupsZ u < groupsZ v) : (encI u).take (groupsZ u) ≠ (encI v).take (groupsZ u) := by
  intro e
  have hb := groups_bd u
  have e1 := congrArg (fun l : List Int => l[groupsZ u - 1]?) e
  simp only [List.getElem?_take_of_lt (show groupsZ u - 1 < groupsZ u by omega)] at e1
  unfold encI at e1
  rw [List.getElem?_map, List.getElem?_map, List.getElem?_range (by omega), List.getElem?_range (by omega)] at e1
  simp only [Option.map_some, Option.some.injEq] at e1
  rw [byteI_last (by omega), byteI_more (by omega)] at e1
  omega
theorem less_bytes : ∀ {x y : List Int}, bytes x → bytes y → lessZ x y = true → Op.bytesLess (x.map fun n => UInt8.ofNat n.toNat) (y.map fun n => UInt8.ofNat n.toNat) = true := by
  intro x
  induction x with
  | nil =>
    intro y _ _ h
    cases y with
    | nil => simp [lessZ] at h
    | cons b y => rfl
  | cons a x ih =>
    intro y hx hy h
    cases y with
    | nil => simp [lessZ] at h
    | cons b y =>
      have ha := hx a (by simp)
      have hb := hy b (by simp)
      rw [lessZ, Bool.or_eq_true, Bool.and_eq_true, decide_eq_true_eq, decide_eq_true_eq] at h
      rw [List.map_cons, List.map_cons, Op.bytesLess, Bool.or_eq_true, Bool.and_eq_true]
      rcases h with h | ⟨rfl, h⟩
      · left
        rw [decide_eq_true_eq, UInt8.lt_iff_toNat_lt, UInt8.toNat_ofNat', UInt8.toNat_ofNat', Nat.mod_eq_of_lt (by omega), Nat.mod_eq_of_lt (by omega)]
        omega
      · right
        exact ⟨by simp, ih (fun z hz => hx z (by simp [hz])) (fun z hz => hy z (by simp [hz])) h⟩
end Go.Proofs.Ytgegmbkjkiifaaa
