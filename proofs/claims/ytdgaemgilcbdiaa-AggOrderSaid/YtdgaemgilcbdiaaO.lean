/- What numbers come to: plain facts on lists. -/
import Derived.Test.YtdgaemgilcbdiaaG
import Derived.Test.YtdgaemgilcbdiaaH
namespace Go.Proofs.Ytdgaemgilcbdiaa
open Go.RowKit
def sumL (l : List Int) : Int := l.sum
def szL (l : List Int) : Int := (l.map fun x => max x (-x)).sum
structure Is (l : List Int) (r : A3) : Prop where
  s : r.s = sumL l
  lo : ∀ x ∈ l, r.mn ≤ x
  hi : ∀ x ∈ l, x ≤ r.mx
  mn : r.mn ∈ l
  mx : r.mx ∈ l
theorem Is.one (z : Int) : Is [z] ⟨z, z, z⟩ := ⟨by simp [sumL], by simp, by simp, by simp, by simp⟩
theorem sumL_append (l k : List Int) : sumL (l ++ k) = sumL l + sumL k := by simp [sumL]
theorem szL_append (l k : List Int) : szL (l ++ k) = szL l + szL k := by simp [szL]
theorem szL_cons (z : Int) (l : List Int) : szL (z :: l) = max z (-z) + szL l := by simp [szL]
theorem szL_nonneg (l : List Int) : 0 ≤ szL l := by
  induction l with
  | nil => simp [szL]
  | cons z l ih => rw [szL_cons]; omega
theorem sum_sz (l : List Int) : -(szL l) ≤ sumL l ∧ sumL l ≤ szL l := by
  induction l with
  | nil => simp [szL, sumL]
  | cons z l ih =>
    have : sumL (z :: l) = z + sumL l := by simp [sumL]
    rw [szL_cons, this]; omega
theorem Is.join {l k : List Int} {a b : A3} (ha : Is l a) (hb : Is k b) : Is (l ++ k) ⟨a.s + b.s, min a.mn b.mn, max a.mx b.mx⟩ := by
  refine ⟨by rw [sumL_append, ha.s, hb.s], fun x hx => ?_, fun x hx => ?_, ?_, ?_⟩
  · rcases List.mem_append.1 hx with h | h
    · have := ha.lo x h; show min a.mn b.mn ≤ x; omega
    · have := hb.lo x h; show min a.mn b.mn ≤ x; omega
  · rcases List.mem_append.1 hx with h | h
    · have := ha.hi x h; show x ≤ max a.mx b.mx; omega
    · have := hb.hi x h; show x ≤ max a.mx b.mx; omega
  · show min a.mn b.mn ∈ l ++ k
    rcases Int.le_total a.mn b.mn with h | h
    · rw [Int.min_eq_left h]; exact List.mem_append.2 (.inl ha.mn)
    · rw [Int.min_eq_right h]; exact List.mem_append.2 (.inr hb.mn)
  · show max a.mx b.mx ∈ l ++ k
    rcases Int.le_total a.mx b.mx with h | h
    · rw [Int.max_eq_right h]; exact List.mem_append.2 (.inr hb.mx)
    · rw [Int.max_eq_left h]; exact List.mem_append.2 (.inl ha.mx)
theorem Is.same {l k : List Int} {a b : A3} (ha : Is l a) (hb : Is k b) (hs : sumL l = sumL k) (hm : ∀ x, x ∈ l ↔ x ∈ k) : a = b := by
  have h1 : a.mn ≤ b.mn := ha.lo _ ((hm _).2 hb.mn)
  have h2 : b.mn ≤ a.mn := hb.lo _ ((hm _).1 ha.mn)
  have h3 : b.mx ≤ a.mx := ha.hi _ ((hm _).2 hb.mx)
  have h4 : a.mx ≤ b.mx := hb.hi _ ((hm _).1 ha.mx)
  obtain ⟨a1, a2, a3⟩ := a
  obtain ⟨b1, b2, b3⟩ := b
  have := ha.s; have := hb.s
  simp only [A3.mk.injEq] at *
  omega
def fitAll (l : List Int) : Prop := ∀ x ∈ l, fit1 x = true
theorem Is.right {l : List Int} {a : A3} (ha : Is l a) (hf : fitAll l) (hs : szL l ≤ 4611686018427387904) : a.right = true := by
  have h1 := sum_sz l
  have h2 : fit1 a.s = true := by rw [ha.s]; exact fit1_in (by omega) (by omega)
  have h3 := hf _ ha.mn
  have h4 := hf _ ha.mx
  have h5 := ha.lo _ ha.mx
  simp [A3.right, rightB, h2, h3, h4, h5]
theorem szL_mem {l : List Int} {x : Int} (h : x ∈ l) : max x (-x) ≤ szL l := by
  induction l with
  | nil => cases h
  | cons z l ih =>
    rw [szL_cons]
    rcases List.mem_cons.1 h with rfl | h
    · have := szL_nonneg l; omega
    · have := ih h; omega
theorem fold_ok (zs : List Int) : ∀ (l : List Int) (r : A3), Is l r → fitAll (l ++ zs) → szL (l ++ zs) ≤ 4611686018427387904 → ∃ r', zs.foldl stepA (r, 0) = (r', 0) ∧ Is (l ++ zs) r' := by
  induction zs with
  | nil => intro l r h _ _; exact ⟨r, rfl, by simpa using h⟩
  | cons z zs ih =>
    intro l r h hf hs
    have hz : fit1 z = true := hf z (by simp)
    have hl : fitAll l := fun x hx => hf x (by simp [hx])
    rw [szL_append, szL_cons] at hs
    have h0 := szL_nonneg zs
    have h1 := szL_nonneg l
    have hr := h.right hl (by omega)
    have hr2 : (A3.mk z z z).right = true := (Is.one z).right (fun x hx => by simp at hx; rw [hx]; exact hz) (by rw [szL_cons]; simp [szL]; omega)
    have hj := h.join (Is.one z)
    have hsum := sum_sz (l ++ [z])
    have hsz : szL (l ++ [z]) = szL l + max z (-z) := by rw [szL_append, szL_cons]; simp [szL]
    have hfit : fit1 (r.s + z) = true := by
      have := hj.s; simp only [] at this; rw [this]; exact fit1_in (by omega) (by omega)
    have hst : stepA (r, 0) z = (⟨r.s + z, min r.mn z, max r.mx z⟩, 0) := by
      simp [stepA, hz, joinA_ok hr hr2 hfit]
    rw [List.foldl_cons, hst]
    have e : l ++ z :: zs = (l ++ [z]) ++ zs := by simp
    rw [e] at hf ⊢
    exact ih (l ++ [z]) _ hj hf (by rw [szL_append, hsz]; omega)
theorem all_ok (l : List Int) (hne : l ≠ []) (hf : fitAll l) (hs : szL l ≤ 4611686018427387904) : ∃ r, allL l = (r, 0) ∧ Is l r ∧ r.right = true := by
  cases l with
  | nil => exact absurd rfl hne
  | cons z zs =>
    have hz : fit1 z = true := hf z (by simp)
    obtain ⟨r, h1, h2⟩ := fold_ok zs [z] ⟨z, z, z⟩ (Is.one z) hf hs
    refine ⟨r, ?_, h2, Is.right h2 hf hs⟩
    simp [allL, allA, oneA_yes hz, h1, finA]
theorem join_ok {l k : List Int} {a b : A3} (ha : Is l a) (hb : Is k b) (hf : fitAll (l ++ k)) (hs : szL (l ++ k) ≤ 4611686018427387904) :
    joinA a b = (⟨a.s + b.s, min a.mn b.mn, max a.mx b.mx⟩, 0) := by
  rw [szL_append] at hs
  have h0 := szL_nonneg l
  have h1 := szL_nonneg k
  have ra := ha.right (fun x hx => hf x (by simp [hx])) (by omega)
  have rb := hb.right (fun x hx => hf x (by simp [hx])) (by omega)
  have := sum_sz l
  have := sum_sz k
  exact joinA_ok ra rb (by rw [ha.s, hb.s]; exact fit1_in (by omega) (by omega))
end Go.Proofs.Ytdgaemgilcbdiaa
