/- RowsFold. -/
import Derived.Test.YtkfcpmmiimpkbaaSM
import Derived.Test.YtkfcpmmiimpkbaaSL
import Derived.Test.YtkfcpmmiimpkbaaRP
namespace Go.Proofs.Ytkfcpmmiimpkbaa
open Go.RowKit Go.Shelf
set_option linter.unusedSimpArgs false
set_option linter.unusedVariables false
theorem fold_any (A : Option Addr) (n c : Nat) (Z : List RZ) (w : World) (hA : RowsC w A Z) (hn : n = Z.length) (hnc : n ≤ c) (ha : A = none → c = 0) (h19 : n ≤ 1000000) (hct : ∀ z ∈ Z, 0 ≤ z.2.count ∧ z.2.count ≤ 1048576) :
    Calls Try.prog 27 #[.slice A n c] w (FoldPost w Z) := by
  rcases Nat.eq_zero_or_pos n with h0 | h0
  · have hZ : Z = [] := List.eq_nil_of_length_eq_zero (by omega)
    subst hZ h0
    exact fold_zero A c w ha
  · exact fold_many A n c Z w hA hn hnc ha h0 h19 hct
theorem rowok_q {p q : Nat} {a : RV} (h : rowOk p q a.t a.count a.dims a.aggs) : RowQ q p a :=
  ⟨⟨by have := h.2.2.2.2.1; omega, h.2.2.2.2.2.1, h.2.1, h.2.2.2.2.2.2.2⟩, h.1⟩
theorem sorted_iff {p q : Nat} {K : List RV} (h : ∀ a ∈ K, RowQ q p a) : (∀ i (h : i + 1 < K.length), lessK (K[i]).t (K[i + 1]).t (K[i]).dims (K[i + 1]).dims = true) ↔ (∀ i (h : i + 1 < K.length), cmpK (K[i]).t (K[i + 1]).t (K[i]).dims (K[i + 1]).dims < 0) := by
  have e : ∀ i (hi : i + 1 < K.length), lessK (K[i]).t (K[i + 1]).t (K[i]).dims (K[i + 1]).dims = true ↔ cmpK (K[i]).t (K[i + 1]).t (K[i]).dims (K[i + 1]).dims < 0 := fun i hi => by
    rw [lessK_cmpK _ _ _ _ ((h _ (List.getElem_mem (by omega))).dims.trans (h _ (List.getElem_mem hi)).dims.symm)]
    simp
  exact ⟨fun g i hi => (e i hi).1 (g i hi), fun g i hi => (e i hi).2 (g i hi)⟩
end Go.Proofs.Ytkfcpmmiimpkbaa
