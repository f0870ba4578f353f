/- The values of a filter: the document's answer (49). -/
import Derived.Test.YtgaallkdfcckpaaFB
namespace Go.Proofs.Ytgaallkdfcckpaa
open Go.RowKit Go.Maps Go.Lib
set_option linter.unusedSimpArgs false
set_option linter.unusedVariables false
noncomputable def valB (s : ByteArray) : Bool := @decide (valP s) (Classical.propDecidable _)
theorem valB_iff (s : ByteArray) : valB s = true ↔ valP s := by unfold valB; exact @decide_eq_true_iff _ (Classical.propDecidable _)
noncomputable def FT.vals : FT → Bool := FT.fold fun f l => valB f.val && l.all id
theorem FT.vals_eq (f : FT) : f.vals = (valB f.val && (f.ks.map FT.vals).all id) := FT.fold_eq _ f
set_option maxRecDepth 100000 in
set_option maxHeartbeats 8000000 in
theorem values_any : ∀ (f : FT) (w : World), FIn w f → Calls Try.prog 72 #[.agg #[.int .i64 f.op, .string f.dim, .string f.val, .slice f.A f.n f.c]] w fun e w' => e = .returned (.bool f.vals) ∧ Below w.heap.size w w' := by
  intro f
  induction f using FT.ind with
  | h f ih =>
  intro w hf 
  obtain ⟨w1, hw1⟩ : ∃ w1, w1 = w.alloc (.cells #[.int .i64 f.op, .string f.dim, .string f.val, .slice f.A f.n f.c] 39) := ⟨_, rfl⟩
  have HB1 := Lib.hid (show Below w.heap.size w w1 by rw [hw1]; exact bpush (Below.refl _ _) _)
  have HK := Lib.hid (show Blk w1 w.heap.size 39 #[.int .i64 f.op, .string f.dim, .string f.val, .slice f.A f.n f.c] by rw [hw1]; exact Blk.new _ _ _)
  have HW1 := Lib.hid hw1
  have HF := Lib.hid hf
  have HIH := Lib.hid ih
  obtain ⟨A, hA⟩ : ∃ A, A = f.A := ⟨_, rfl⟩
  obtain ⟨n, hn⟩ : ∃ n, n = f.n := ⟨_, rfl⟩
  obtain ⟨c, hc⟩ : ∃ c, c = f.c := ⟨_, rfl⟩
  have HA := Lib.hid (show Row w A (cellsK f.ks) by rw [hA]; exact hf.top.row)
  have HN := Lib.hid (show n = f.ks.length by rw [hn]; exact hf.top.len)
  have hn2 : n ≤ 9223372036854775807 := by rw [hn]; exact hf.top.max
  have hnc : n ≤ c := by rw [hn, hc]; exact hf.top.cap
  obtain ⟨g, hg⟩ : ∃ g, g = w.heap.size := ⟨_, rfl⟩
  have HG := Lib.hid hg
  have HKB := Lib.hid (fun W (hb : Below w1.heap.size w1 W) => show Blk W g 39 #[.int .i64 f.op, .string f.dim, .string f.val, .slice f.A f.n f.c] from by
    have hl := HK.out.lt
    rw [hg]
    exact (hb.block _ hl).trans HK.out)
  have HC3 := Lib.hid (fun W (hb : Below w1.heap.size w1 W) => show W.cell? ⟨g, 3, none⟩ = some (.slice A n c) from by
    have h3 := (HKB.out W hb).cell 3
    rw [h3, hA, hn, hc]; rfl)
  obtain ⟨D, hD⟩ : ∃ D, D = f.ks.map FT.vals := ⟨_, rfl⟩
  have hde : f.vals = (valB f.val && D.all id) := by rw [hD]; exact f.vals_eq
  obtain ⟨x2, hx2⟩ : ∃ x, x = f.val := ⟨_, rfl⟩
  have HVA := Lib.hid (refvalue_any x2 w1 (by rw [hx2]; have := hf.top.val; omega) (valB x2) (valB_iff x2))
  have c2 : w1.cell? ⟨g, 2, none⟩ = some (.string x2) := by
    have h3 := (HKB.out w1 (Below.refl _ _)).cell 2
    rw [h3, hx2]; rfl
  rw [← hx2] at hde
  obtain ⟨s0, hs0⟩ : ∃ s, s = valB x2 := ⟨_, rfl⟩
  rw [← hs0] at hde HVA
  have HDE := Lib.hid hde
  have HD := Lib.hid hD
  clear hw1 hf hD ih hA hn hc hg hde hx2 hs0
  go_enter Try.func72, Try.ntmps72
  go_upto_region 1 with fail
  rw [← HW1.out, ← HG.out]
  go_upto_region 3 with (go_at_call 75; refine HVA.out.mono ?_; rintro e w2 ⟨rfl, rfl⟩)
  go_loopw [3, 4] (fun v3 v4 wr => ∃ (k : Nat) (r : Bool), k ≤ n ∧ v4 = .int .i64 k ∧ v3 = .bool r ∧ Hid (r = (s0 && (D.take k).all id)) ∧ Hid (Below w1.heap.size w1 wr)) (fun _ i _ => n - (intOf i).toNat)
  case atStart => exact ⟨0, _, by omega, rfl, rfl, Lib.hid (by simp), Lib.hid (Below.refl _ _)⟩
  case round =>
    clear c2 HVA
    obtain ⟨k, r, hk, rfl, rfl, HR, HB⟩ := hrel
    have c3 := HC3.out wr HB.out
    by_cases hlt : k < n
    · have hkz0 : (0 : Int) ≤ (k : Int) := by omega
      have hkz1 : (k : Int) < (n : Int) := by omega
      have hkz : k < f.ks.length := by have := HN.out; omega
      obtain ⟨b, off, rfl, q0, q1, q2, q3⟩ := kid_cells (HA.out.keep (Nat.le_refl _) (bthen HB1.out HB.out)) hkz
      obtain ⟨x, hx⟩ : ∃ x, x = f.ks[k] := ⟨_, rfl⟩
      have hxm : x ∈ f.ks := by rw [hx]; exact List.getElem_mem _
      have HX := Lib.hid (HIH.out x hxm wr (FIn.keep x (HF.out.kid x hxm) (Nat.le_refl _) (bthen HB1.out HB.out)))
      have HS := Lib.hid (show (D.take (k + 1)).all id = ((D.take k).all id && x.vals) by
        rw [take_snoc _ _ (by rw [HD.out]; simpa using hkz), List.all_append]
        simp [HD.out, hx])
      rw [← hx] at q0 q1 q2 q3
      obtain ⟨y, hy⟩ : ∃ y, y = x.vals := ⟨_, rfl⟩
      rw [← hy] at HS HX
      have HR2 := Lib.hid (show (r && y) = (s0 && (D.take (k + 1)).all id) by rw [HS.out, HR.out, Bool.and_assoc])
      clear hx hxm hy hlt HS HR
      cases r with
      | true =>
        go_wp2_with (go_at_call 72; refine HX.out.mono ?_; rintro e w2 ⟨rfl, hb⟩; have HB2 := Lib.hid hb; clear hb)
        go_roundw
        case rel => exact ⟨k + 1, y, by omega, by go_num, rfl, Lib.hid (by rw [← HR2.out]; simp), Lib.hid (bthen HB.out HB2.out)⟩
        case measure => simp [intOf]; omega
      | false =>
        go_wp2_with (go_at_call 72; refine HX.out.mono ?_; rintro e w2 ⟨rfl, hb⟩; have HB2 := Lib.hid hb; clear hb)
        go_roundw
        case rel => exact ⟨k + 1, false, by omega, by go_num, rfl, Lib.hid (by rw [← HR2.out]; simp), Lib.hid (bthen HB.out HB2.out)⟩
        case measure => simp [intOf]; omega
    · obtain rfl : k = n := by omega
      have hkz1 : ¬ (k : Int) < (k : Int) := by omega
      have HE := Lib.hid (show r = f.vals by
        have h1 : D.take k = D := List.take_of_length_le (by rw [HD.out]; simpa using Nat.le_of_eq HN.out.symm)
        rw [HR.out, h1, HDE.out])
      go_wp2_with fail
      go_ret
      exact ⟨by rw [← HE.out]; rfl, bthen HB1.out HB.out⟩
end Go.Proofs.Ytgaallkdfcckpaa
