/- A list without one of its texts; a list with one more. -/
import Derived.Test.YtbecgknahhhfiaaZ
namespace Go.Proofs.Ytbecgknahhhfiaa
open Go.RowKit
set_option linter.unusedSimpArgs false
set_option linter.unusedVariables false
theorem and1023 (m : Int) : ∃ q : Nat, q ≤ 1023 ∧ bits .and .i64 m 1023 = (q : Int) := by
  refine ⟨(BitVec.ofInt 64 m &&& BitVec.ofInt 64 1023).toNat, ?_, ?_⟩
  · have h : (BitVec.ofInt 64 m &&& BitVec.ofInt 64 1023).toNat ≤ 1023 := by rw [BitVec.toNat_and]; exact Nat.and_le_right
    exact h
  · have h : (BitVec.ofInt 64 m &&& BitVec.ofInt 64 1023).toNat ≤ 1023 := by rw [BitVec.toNat_and]; exact Nat.and_le_right
    show IntKind.i64.wrap ((BitVec.ofInt 64 m &&& BitVec.ofInt 64 1023).toNat : Int) = _
    exact IntWalk.i64_in _ (by omega)
def lessL (L : List ByteArray) (k : Nat) : List ByteArray := L.take k ++ L.drop (k + 1)
def moreL (D : List ByteArray) (k : Nat) : List ByteArray := D.take k ++ [⟨#[]⟩] ++ D.drop k
theorem less_sub (L : List ByteArray) (k : Nat) : (lessL L k).Sublist L := by
  have h : (L.take k ++ L.drop (k + 1)).Sublist (L.take k ++ L.drop k) := List.Sublist.append_left (by rw [show k + 1 = k + 1 from rfl, ← List.drop_drop]; exact List.drop_sublist 1 _) _
  rw [List.take_append_drop] at h
  exact h
theorem less_len {L : List ByteArray} {k : Nat} (h : k < L.length) : (lessL L k).length = L.length - 1 := by
  simp [lessL]; omega
theorem names_sub {K U : List ByteArray} (h : namesP U) (k : K.Sublist U) : namesP K := by
  refine ⟨fun s hs => h.1 s (k.subset hs), ?_⟩
  have : U.Pairwise (· ≠ ·) := List.pairwise_iff_getElem.2 fun i j hi hj hij => h.2 i j hij hj
  have h2 := List.Pairwise.sublist k this
  exact fun i j hij hj => List.pairwise_iff_getElem.1 h2 i j (by omega) hj hij
theorem less_right {L M : List ByteArray} {k : Nat} (h : rightP L M) (hk : k < L.length) (h2 : 2 ≤ L.length) : rightP (lessL L k) M := by
  refine ⟨by rw [less_len hk]; omega, by rw [less_len hk]; have := h.2.1; omega, h.2.2.1, names_sub h.2.2.2 (List.Sublist.append_right (less_sub L k) M)⟩
theorem less_subset {L M : List ByteArray} {k : Nat} (h : rightP L M) : subsetP (lessL L k) L := by
  have hL : namesP L := names_sub h.2.2.2 (List.sublist_append_left _ _)
  exact ⟨names_sub hL (less_sub L k), less_sub L k⟩
theorem less_not {L : List ByteArray} {k : Nat} (hk : k < L.length) : ¬ subsetP L (lessL L k) := fun h => by
  have := h.2.length_le; rw [less_len hk] at this; omega
theorem val_empty : valP ⟨#[]⟩ := by decide +kernel
theorem more_len (D : List ByteArray) {k : Nat} (h : k ≤ D.length) : (moreL D k).length = D.length + 1 := by
  simp [moreL]; omega
theorem more_mem {D : List ByteArray} {k : Nat} {P : ByteArray → Prop} (h0 : P ⟨#[]⟩) : (∀ s ∈ moreL D k, P s) ↔ ∀ s ∈ D, P s := by
  constructor
  · intro h s hs
    rw [← List.take_append_drop k D] at hs
    refine h s ?_
    simp only [moreL, List.mem_append] at hs ⊢
    rcases hs with hs | hs
    · exact .inl (.inl hs)
    · exact .inr hs
  · intro h s hs
    simp only [moreL, List.mem_append, List.mem_singleton] at hs
    rcases hs with (hs | hs) | hs
    · exact h s (List.mem_of_mem_take hs)
    · rw [hs]; exact h0
    · exact h s (List.mem_of_mem_drop hs)
theorem more_check {L M D : List ByteArray} {X : List Int} {t v : Int} {k : Nat} (hk : k < L.length) (hD : D.length = L.length - 1) (h : CheckIs (lessL L k) M D X t v) : CheckIs L M (moreL D k) X t v := by
  have e1 : (moreL D k).length = L.length := by rw [more_len D (by omega)]; omega
  have e2 : D.length = (lessL L k).length := by rw [less_len hk]; exact hD
  have hv : (∀ s ∈ moreL D k, valP s) ↔ ∀ s ∈ D, valP s := more_mem val_empty
  rcases h with ⟨h, _⟩ | ⟨_, h2, h3⟩ | ⟨_, h2, h⟩
  · exact absurd e2 h
  · exact .inr (.inl ⟨e1, h2, h3⟩)
  · refine .inr (.inr ⟨e1, h2, ?_⟩)
    rcases h with ⟨⟨s, hs, h⟩, e⟩ | ⟨h1, h⟩ | ⟨h1, h⟩
    · refine .inl ⟨Classical.byContradiction fun hn => h ((hv.1 fun x hx => Classical.byContradiction fun hx2 => hn ⟨x, hx, hx2⟩) s hs), e⟩
    · exact .inr (.inl ⟨hv.2 h1, h⟩)
    · exact .inr (.inr ⟨hv.2 h1, h⟩)
end Go.Proofs.Ytbecgknahhhfiaa
