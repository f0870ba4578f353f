/- The program's 'shaped' told as a function, and that it is the document's form. -/
import Derived.Test.YtgaallkdfcckpaaCL
namespace Go.Proofs.Ytgaallkdfcckpaa
open Go.RowKit Go.Maps Go.Lib
set_option linter.unusedSimpArgs false
set_option linter.unusedVariables false
def FT.shp : FT → Nat → Bool := FT.fold fun f l d => decide (d ≤ 30) && f.opTop (decide (d = 1)) && l.all (fun g => g (d + 1))
theorem FT.shp_eq (f : FT) (d : Nat) : f.shp d = (decide (d ≤ 30) && f.opTop (decide (d = 1)) && (f.ks.map fun x => x.shp (d + 1)).all id) := by
  unfold FT.shp; rw [FT.fold_eq]; simp only [List.all_map]; rfl
theorem opTop_false (f : FT) : f.opTop false = opOk f.op f.n f.dim f.val := by
  unfold FT.opTop opT opOk
  split
  · rename_i h; rw [h]; simp [opB]
  · rfl
theorem opTop_nz (f : FT) (t : Bool) (h : f.op ≠ 0) : f.opTop t = opOk f.op f.n f.dim f.val := by
  unfold FT.opTop opT opOk
  rw [if_neg h]
theorem shp_form : ∀ (f : FT) (d : Nat), 2 ≤ d → f.shp d = f.form (31 - d) := by
  intro f
  induction f using FT.ind with
  | h f ih =>
    intro d hd
    rw [f.shp_eq]
    by_cases h : d ≤ 30
    · obtain ⟨k, hk⟩ : ∃ k, 31 - d = k + 1 := ⟨30 - d, by omega⟩
      rw [hk, f.form_eq, decide_eq_true h, decide_eq_false (show ¬ d = 1 by omega), opTop_false, Bool.true_and, Bool.and_comm]
      congr 2
      refine List.map_congr_left fun x hx => ?_
      rw [ih x hx (d + 1) (by omega)]
      congr 1; omega
    · rw [show 31 - d = 0 by omega, f.form_zero, decide_eq_false h]; rfl
theorem shp_top (f : FT) (h : f.op ≠ 0) : f.shp 1 = f.form 30 := by
  rw [f.shp_eq, f.form_eq 29, opTop_nz f _ h, decide_eq_true (show (1 : Nat) ≤ 30 by omega), Bool.true_and, Bool.and_comm]
  congr 2
  exact List.map_congr_left fun x _ => shp_form x 2 (by omega)
theorem shp_all (f : FT) (h : f.op = 0) (hn : f.n = f.ks.length) : f.shp 1 = (decide (f.n = 0) && decide (f.dim = ⟨#[]⟩) && decide (f.val = ⟨#[]⟩)) := by
  rw [f.shp_eq, decide_eq_true (show (1 : Nat) ≤ 30 by omega), decide_eq_true (rfl : (1 : Nat) = 1), Bool.true_and]
  unfold FT.opTop opT
  rw [if_pos h]
  by_cases h0 : f.n = 0
  · have : f.ks = [] := List.eq_nil_of_length_eq_zero (by omega)
    rw [this]; simp
  · simp [h0]
end Go.Proofs.Ytgaallkdfcckpaa
