/- The live question. -/
import Derived.Test.YtbecgknahhhfiaaN
namespace Go.Proofs.Ytbecgknahhhfiaa
open Go.RowKit
set_option linter.unusedSimpArgs false
set_option linter.unusedVariables false
instance (i b : Nat) : Decidable (okN i b) := by unfold okN; infer_instance
instance (s : ByteArray) : Decidable (∀ (i : Nat) (h : i < s.size), okN i (s[i]'h).toNat) := Nat.decidableBallLT s.size (fun i h => okN i (s[i]'h).toNat)
instance (s : ByteArray) : Decidable (s ∈ wordsL) := @List.instDecidableMemOfLawfulBEq ByteArray instBEqOfDecidableEq inferInstance _ _
instance (s : ByteArray) : Decidable (nameP s) := by unfold nameP; infer_instance
instance (s : ByteArray) : Decidable (valueP s) := by unfold valueP; infer_instance
instance (s : ByteArray) : Decidable (valP s) := by unfold valP; infer_instance
theorem apart_of {L : List ByteArray} (h : ∀ j (h : j < L.length), ∀ i (hij : i < j), L[i]'(Nat.lt_trans hij h) ≠ L[j]) : apartP L := fun i j hij hj => h j hj i hij
def citykind : List ByteArray := [⟨#[99, 105, 116, 121]⟩, ⟨#[107, 105, 110, 100]⟩]
def costL : List ByteArray := [⟨#[99, 111, 115, 116]⟩]
def aliveD : List ByteArray := [⟨#[]⟩, ⟨#[120, 32, 121]⟩]
theorem al_first : FirstAt citykind ⟨#[107, 105, 110, 100]⟩ (some 1) := ⟨by decide, by decide, by decide⟩
theorem al_right : rightP citykind costL := ⟨by decide, by decide, by decide, by decide +kernel, apart_of (by decide +kernel)⟩
theorem al_check : CheckIs citykind costL aliveD [-4] 3 0 := by
  refine .inr (.inr ⟨rfl, rfl, .inr (.inr ⟨by decide +kernel, fun x hx => ?_, .inr (.inr ⟨by omega, by omega, rfl⟩)⟩)⟩)
  simp at hx; subst hx; unfold greatZ; omega
theorem al_name : nameP ⟨#[97, 95, 49]⟩ := by decide +kernel
theorem al_noname : ¬ nameP ⟨#[115, 117, 109]⟩ := by decide +kernel
theorem al_novalue : ¬ valP ⟨#[97, 34]⟩ := by decide +kernel
theorem Row.cells {w : World} {t : TypeId} {xs : List Value} : Row (w.alloc (.cells xs.toArray t)) (some ⟨w.heap.size, 0, none⟩) xs := Row.made rfl rfl
theorem cell_made {W : World} {xs : Array Value} {t : TypeId} {b j : Nat} {u : Value} (hb : b = W.heap.size) (h : xs[j]? = some u) : (W.alloc (.cells xs t)).cell? ⟨b, j, none⟩ = some u := by
  subst hb; simp [h]
def AliveW (w W1 : World) : Prop := Below w.heap.size w W1 ∧ W1.heap.size = w.heap.size + 3 ∧ Row W1 (some ⟨w.heap.size, 0, none⟩) (texts citykind) ∧ Row W1 (some ⟨w.heap.size + 1, 0, none⟩) (texts costL) ∧
  W1.cell? ⟨w.heap.size + 2, 0, none⟩ = some (.slice (some ⟨w.heap.size, 0, none⟩) 2 2) ∧ W1.cell? ⟨w.heap.size + 2, 1, none⟩ = some (.slice (some ⟨w.heap.size + 1, 0, none⟩) 1 1)
theorem alive_w (w : World) : AliveW w (((w.alloc (.cells #[.string ⟨#[99, 105, 116, 121]⟩, .string ⟨#[107, 105, 110, 100]⟩] 9)).alloc (.cells #[.string ⟨#[99, 111, 115, 116]⟩] 9)).alloc
    (.cells #[.slice (some ⟨w.heap.size, 0, none⟩) 2 2, .slice (some ⟨w.heap.size + 1, 0, none⟩) 1 1] 24)) := by
  have h1 : Row (w.alloc (.cells #[.string ⟨#[99, 105, 116, 121]⟩, .string ⟨#[107, 105, 110, 100]⟩] 9)) (some ⟨w.heap.size, 0, none⟩) (texts citykind) := Row.made rfl rfl
  have h2 : Row ((w.alloc (.cells #[.string ⟨#[99, 105, 116, 121]⟩, .string ⟨#[107, 105, 110, 100]⟩] 9)).alloc (.cells #[.string ⟨#[99, 111, 115, 116]⟩] 9)) (some ⟨w.heap.size + 1, 0, none⟩) (texts costL) := Row.made (by simp) rfl
  refine ⟨bthen (bthen (bpush (Below.refl _ _) _) (bpush (Below.refl _ _) _)) (bpush (Below.refl _ _) _), by simp, ?_, ?_, ?_, ?_⟩
  · exact h1.keep (Nat.le_refl _) (bthen (bpush (Below.refl _ _) _) (bpush (Below.refl _ _) _))
  · exact h2.keep (Nat.le_refl _) (bpush (Below.refl _ _) _)
  · exact cell_made (by simp) rfl
  · exact cell_made (by simp) rfl
set_option maxRecDepth 100000 in
set_option maxHeartbeats 4000000 in
theorem alive_any (w : World) : Calls Try.prog 9 #[] w fun e w' => e = .returned (.bool true) ∧ Below w.heap.size w w' := by
  have ha := alive_w w
  obtain ⟨W1, hW1⟩ : ∃ W1, W1 = (((w.alloc (.cells #[.string ⟨#[99, 105, 116, 121]⟩, .string ⟨#[107, 105, 110, 100]⟩] 9)).alloc (.cells #[.string ⟨#[99, 111, 115, 116]⟩] 9)).alloc
    (.cells #[.slice (some ⟨w.heap.size, 0, none⟩) 2 2, .slice (some ⟨w.heap.size + 1, 0, none⟩) 1 1] 24)) := ⟨_, rfl⟩
  rw [← hW1] at ha
  have HW := Lib.hid hW1
  have HA := Lib.hid ha
  clear ha hW1
  go_enter Try.func9, Try.ntmps9
  go_wp2_with fail
  rw [← HW.out]
  refine (dim_any _ _ 2 2 1 1 citykind _ _ HA.out.2.2.1 rfl (by omega)).mono ?_
  rintro e w1 ⟨⟨o, ho, rfl⟩, hb⟩
  obtain rfl : o = some 1 := ho.uniq al_first
  have HB := Lib.hid hb
  obtain ⟨h1, h2⟩ : w1.cell? ⟨w.heap.size + 2, 0, none⟩ = some (.slice (some ⟨w.heap.size, 0, none⟩) 2 2) ∧ w1.cell? ⟨w.heap.size + 2, 1, none⟩ = some (.slice (some ⟨w.heap.size + 1, 0, none⟩) 1 1) := ⟨cell_on hb HA.out.2.2.2.2.1, cell_on hb HA.out.2.2.2.2.2⟩
  clear hb ho
  go_wp2_with fail
  refine (right_any _ _ 2 2 1 1 citykind costL _ (HA.out.2.2.1.keep (Nat.le_refl _) HB.out) (HA.out.2.2.2.1.keep (Nat.le_refl _) HB.out) rfl rfl (by omega) (by omega) (fun h => by cases h) (fun h => by cases h) (by decide) (by decide) (by omega) (by omega) true ⟨fun _ => al_right, fun _ => rfl⟩).mono ?_
  rintro e w2 ⟨rfl, hb⟩
  have k1 := cell_on hb h1
  have k2 := cell_on hb h2
  have HB2 := Lib.hid (bthen HB.out hb)
  clear hb h1 h2
  go_wp2_with fail
  obtain ⟨W2, hW2⟩ : ∃ W2, W2 = ((w2.alloc (.cells #[.string ⟨#[]⟩, .string ⟨#[120, 32, 121]⟩] 9)).alloc (.cells #[.int .i64 (-4)] 3)) := ⟨_, rfl⟩
  have hr1 : Row W2 (some ⟨w2.heap.size, 0, none⟩) (texts aliveD) := by
    rw [hW2]; exact (show Row (w2.alloc (.cells #[.string ⟨#[]⟩, .string ⟨#[120, 32, 121]⟩] 9)) _ _ from Row.made rfl rfl).keep (Nat.le_refl _) (bpush (Below.refl _ _) _)
  have hr2 : Row W2 (some ⟨w2.heap.size + 1, 0, none⟩) (([-4] : List Int).map (Value.int .i64)) := by
    rw [hW2]; exact Row.made (by simp) rfl
  have HB3 := Lib.hid (bthen HB2.out (show Below w2.heap.size w2 W2 by rw [hW2]; exact bthen (bpush (Below.refl _ _) _) (bpush (Below.refl _ _) _)))
  have HR1 := Lib.hid hr1
  have HR2 := Lib.hid hr2
  have HW2 := Lib.hid hW2
  clear hr1 hr2 hW2 k1 k2
  rw [← HW2.out]
  refine (check_any _ _ _ _ 2 2 1 1 2 2 1 1 3 citykind costL aliveD [-4] _ HR1.out HR2.out rfl rfl rfl rfl (by decide) (by omega) (by omega) 0 al_check).mono ?_
  rintro e w4 ⟨rfl, hb⟩
  have HB4 := Lib.hid (bthen HB3.out hb)
  clear hb
  go_wp2_with fail
  refine (name_any _ _ (by decide) true ⟨fun _ => al_name, fun _ => rfl⟩).mono ?_
  rintro e w5 ⟨rfl, hb⟩
  have HB5 := Lib.hid (bthen HB4.out hb)
  clear hb
  go_wp2_with fail
  refine (name_any _ _ (by decide) false ⟨fun h => (by cases h), fun h => absurd h al_noname⟩).mono ?_
  rintro e w6 ⟨rfl, hb⟩
  have HB6 := Lib.hid (bthen HB5.out hb)
  clear hb
  go_wp2_with fail
  refine (value_any _ _ (by decide) false ⟨fun h => (by cases h), fun h => absurd h al_novalue⟩).mono ?_
  rintro e w7 ⟨rfl, hb⟩
  have HB7 := Lib.hid (bthen HB6.out hb)
  clear hb
  go_wp2_with fail
  go_ret
  exact ⟨rfl, (HA.out.1.trans (HB7.out.mono (by have := HA.out.2.1; omega)))⟩
end Go.Proofs.Ytbecgknahhhfiaa
