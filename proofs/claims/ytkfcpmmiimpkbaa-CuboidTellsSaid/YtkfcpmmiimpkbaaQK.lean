/- Are two rows one (the document's). -/
import Derived.Test.YtkfcpmmiimpkbaaQI
namespace Go.Proofs.Ytkfcpmmiimpkbaa
open Go.RowKit
set_option linter.unusedSimpArgs false
set_option linter.unusedVariables false
set_option maxRecDepth 100000 in
set_option maxHeartbeats 8000000 in
theorem refrow_any (t u k0 j : Int) (A B G H : Option Addr) (n c m d gn gc hn' hc' : Nat) (L M : List ByteArray) (X Y : List Ag) (w : World) (hA : Row w A (texts L)) (hB : Row w B (texts M)) (hG : Row w G (cellsG X)) (hH : Row w H (cellsG Y)) (hn : n = L.length) (hm : m = M.length) (hgn : gn = X.length) (hhn : hn' = Y.length) (hn2 : n ≤ 9223372036854775807) (hm2 : m ≤ 9223372036854775807) (hg2 : gn ≤ 9223372036854775807) (hh2 : hn' ≤ 9223372036854775807) (r : Bool) (hr : r = true ↔ (L = M ∧ t = u) ∧ X = Y ∧ k0 = j) :
    Calls Try.prog 32 #[.agg #[.int .i64 t, .slice A n c, .int .i64 k0, .slice G gn gc], .agg #[.int .i64 u, .slice B m d, .int .i64 j, .slice H hn' hc']] w fun e w' => e = .returned (.bool r) ∧ Below w.heap.size w w' := by
  obtain ⟨p, hp⟩ : ∃ p : Bool, p = true ↔ L = M ∧ t = u := ⟨decide (L = M ∧ t = u), by simp⟩
  obtain ⟨q, hq⟩ : ∃ q : Bool, q = true ↔ X = Y := ⟨decide (X = Y), by simp⟩
  obtain ⟨W1, hW1⟩ : ∃ W1, W1 = (w.alloc (.cells #[.int .i64 t, .slice A n c, .int .i64 k0, .slice G gn gc] 45)).alloc (.cells #[.int .i64 u, .slice B m d, .int .i64 j, .slice H hn' hc'] 45) := ⟨_, rfl⟩
  have hb1 : Below w.heap.size w W1 := by rw [hW1]; exact bpush (bpush (Below.refl _ _) _) _
  have HB1 := Lib.hid hb1
  have HA := Lib.hid (hA.keep (Nat.le_refl _) hb1)
  have HB := Lib.hid (hB.keep (Nat.le_refl _) hb1)
  have HG := Lib.hid (hG.keep (Nat.le_refl _) hb1)
  have HH := Lib.hid (hH.keep (Nat.le_refl _) hb1)
  have s0 : W1.cell? ⟨w.heap.size, 0, none⟩ = some (.int .i64 t) := by rw [hW1]; exact cell_on (bpush (Below.refl _ _) _) (cell_made rfl rfl)
  have s1 : W1.cell? ⟨w.heap.size, 1, none⟩ = some (.slice A n c) := by rw [hW1]; exact cell_on (bpush (Below.refl _ _) _) (cell_made rfl rfl)
  have s2 : W1.cell? ⟨w.heap.size, 2, none⟩ = some (.int .i64 k0) := by rw [hW1]; exact cell_on (bpush (Below.refl _ _) _) (cell_made rfl rfl)
  have s3 : W1.cell? ⟨w.heap.size, 3, none⟩ = some (.slice G gn gc) := by rw [hW1]; exact cell_on (bpush (Below.refl _ _) _) (cell_made rfl rfl)
  have c0 : W1.cell? ⟨w.heap.size + 1, 0, none⟩ = some (.int .i64 u) := by rw [hW1]; exact cell_made (by simp) rfl
  have c1 : W1.cell? ⟨w.heap.size + 1, 1, none⟩ = some (.slice B m d) := by rw [hW1]; exact cell_made (by simp) rfl
  have c2 : W1.cell? ⟨w.heap.size + 1, 2, none⟩ = some (.int .i64 j) := by rw [hW1]; exact cell_made (by simp) rfl
  have c3 : W1.cell? ⟨w.heap.size + 1, 3, none⟩ = some (.slice H hn' hc') := by rw [hW1]; exact cell_made (by simp) rfl
  have HW1 := Lib.hid hW1
  have HN := Lib.hid hn
  have HM := Lib.hid hm
  have HGN := Lib.hid hgn
  have HHN := Lib.hid hhn
  have HP := Lib.hid hp
  have HQ := Lib.hid hq
  have HR := Lib.hid (show r = (p && (q && decide (k0 = j))) by
    by_cases e : k0 = j <;> cases p <;> cases q <;> cases r <;> simp_all)
  clear hA hB hG hH hn hm hgn hhn hr hW1 hb1 hp hq
  go_enter Try.func32, Try.ntmps32
  go_wp2_with fail
  rw [← HW1.out]
  clear HW1
  (go_at_call 38; refine (onekey_any t u k0 j A B G H n c m d gn gc hn' hc' L M _ HA.out HB.out HN.out HM.out hn2 hm2 p HP.out).mono ?_; rintro e w7 ⟨rfl, hb⟩)
  have s0 := cell_on hb s0
  have s1 := cell_on hb s1
  have s2 := cell_on hb s2
  have s3 := cell_on hb s3
  have c0 := cell_on hb c0
  have c1 := cell_on hb c1
  have c2 := cell_on hb c2
  have c3 := cell_on hb c3
  have HG := Lib.hid (HG.out.keep (Nat.le_refl _) hb)
  have HH := Lib.hid (HH.out.keep (Nat.le_refl _) hb)
  have HBB := Lib.hid (bthen HB1.out hb)
  clear hb
  go_wp2_with fail
  (go_at_call 56; refine (refaggs_any G H gn gc hn' hc' X Y _ HG.out HH.out HGN.out HHN.out hg2 hh2 q HQ.out).mono ?_; rintro e w8 ⟨rfl, hb⟩)
  have s2 := cell_on hb s2
  have c2 := cell_on hb c2
  have HBB := Lib.hid (bthen HBB.out hb)
  clear hb
  by_cases hkj : k0 = j
  · subst hkj
    cases p with
    | false => cases q <;> (go_wp2_with fail; go_ret; exact ⟨by rw [HR.out]; simp, HBB.out⟩)
    | true =>
      cases q with
      | false => (go_wp2_with fail; go_ret; exact ⟨by rw [HR.out]; simp, HBB.out⟩)
      | true => (go_wp2_with fail; go_ret; exact ⟨by rw [HR.out]; simp, HBB.out⟩)
  · have z1 : (k0 == j) = false := beq_eq_false_iff_ne.2 hkj
    cases p with
    | false => cases q <;> (go_wp2_with fail; go_ret; exact ⟨by rw [HR.out]; simp, HBB.out⟩)
    | true =>
      cases q with
      | false => (go_wp2_with fail; go_ret; exact ⟨by rw [HR.out]; simp, HBB.out⟩)
      | true => (go_wp2_with fail; go_ret; exact ⟨by rw [HR.out]; simp [hkj], HBB.out⟩)
end Go.Proofs.Ytkfcpmmiimpkbaa
