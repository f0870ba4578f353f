/- The parts of a filter, as far as they are counted. -/
import Derived.Test.YtgaallkdfcckpaaFA
namespace Go.Proofs.Ytgaallkdfcckpaa
open Go.RowKit Go.Maps Go.Lib
set_option linter.unusedSimpArgs false
set_option linter.unusedVariables false
def FT.own (f : FT) : Nat := 1 + (f.dim.size + f.val.size) / 100
def FT.tot : FT → Nat := FT.fold fun f l => f.own + l.sum
theorem FT.tot_eq (f : FT) : f.tot = f.own + (f.ks.map FT.tot).sum := FT.fold_eq _ f
theorem sum_take (l : List Nat) (k : Nat) : (l.take k).sum ≤ l.sum := by
  conv => rhs; rw [← List.take_append_drop k l, List.sum_append]
  omega
def PartsR (left r : Int) (t : Nat) : Prop := ((t : Int) < left ∧ r = t) ∨ (left ≤ t ∧ left ≤ r ∧ r ≤ left + 3000000000000)
set_option maxRecDepth 100000 in
set_option maxHeartbeats 8000000 in
theorem parts_any : ∀ (f : FT) (w : World), FIn w f → ∀ left : Int, 1 ≤ left → left ≤ 300 → Calls Try.prog 46 #[.agg #[.int .i64 f.op, .string f.dim, .string f.val, .slice f.A f.n f.c], .int .i64 left] w fun e w' => (∃ r, e = .returned (.int .i64 r) ∧ PartsR left r f.tot) ∧ Below w.heap.size w w' := by
  intro f
  induction f using FT.ind with
  | h f ih =>
  intro w hf left hl1 hl2
  obtain ⟨w1, hw1⟩ : ∃ w1, w1 = w.alloc (.cells #[.int .i64 f.op, .string f.dim, .string f.val, .slice f.A f.n f.c] 39) := ⟨_, rfl⟩
  have HB1 := Lib.hid (show Below w.heap.size w w1 by rw [hw1]; exact bpush (Below.refl _ _) _)
  have HK := Lib.hid (show Blk w1 w.heap.size 39 #[.int .i64 f.op, .string f.dim, .string f.val, .slice f.A f.n f.c] by rw [hw1]; exact Blk.new _ _ _)
  have HW1 := Lib.hid hw1
  have HF := Lib.hid hf
  have HIH := Lib.hid ih
  obtain ⟨A, hA⟩ : ∃ A, A = f.A := ⟨_, rfl⟩
  obtain ⟨n, hn⟩ : ∃ n, n = f.n := ⟨_, rfl⟩
  obtain ⟨c, hc⟩ : ∃ c, c = f.c := ⟨_, rfl⟩
  have HA := Lib.hid (show Row w A (cellsK f.ks) by rw [hA]; exact hf.top.row)
  have HN := Lib.hid (show n = f.ks.length by rw [hn]; exact hf.top.len)
  have hn2 : n ≤ 9223372036854775807 := by rw [hn]; exact hf.top.max
  have hnc : n ≤ c := by rw [hn, hc]; exact hf.top.cap
  obtain ⟨g, hg⟩ : ∃ g, g = w.heap.size := ⟨_, rfl⟩
  have HG := Lib.hid hg
  have HKB := Lib.hid (fun W (hb : Below w1.heap.size w1 W) => show Blk W g 39 #[.int .i64 f.op, .string f.dim, .string f.val, .slice f.A f.n f.c] from by
    have hl := HK.out.lt
    rw [hg]
    exact (hb.block _ hl).trans HK.out)
  have HC3 := Lib.hid (fun W (hb : Below w1.heap.size w1 W) => show W.cell? ⟨g, 3, none⟩ = some (.slice A n c) from by
    have h3 := (HKB.out W hb).cell 3
    rw [h3, hA, hn, hc]; rfl)
  obtain ⟨D, hD⟩ : ∃ D, D = f.ks.map FT.tot := ⟨_, rfl⟩
  have hde : f.tot = f.own + D.sum := by rw [hD]; exact f.tot_eq
  obtain ⟨s, hs⟩ : ∃ s, s = f.dim.size + f.val.size := ⟨_, rfl⟩
  obtain ⟨x1, hx1⟩ : ∃ x, x = f.dim := ⟨_, rfl⟩
  obtain ⟨x2, hx2⟩ : ∃ x, x = f.val := ⟨_, rfl⟩
  have hd1 : x1.size ≤ 140737488355328 := by rw [hx1]; exact hf.top.dim
  have hd2 : x2.size ≤ 140737488355328 := by rw [hx2]; exact hf.top.val
  obtain ⟨o, ho⟩ : ∃ o, o = f.own := ⟨_, rfl⟩
  have hoe : o = 1 + (x1.size + x2.size) / 100 := by rw [ho, hx1, hx2]; rfl
  rw [← ho] at hde
  have HDE := Lib.hid hde
  have HD := Lib.hid hD
  have HOE := Lib.hid hoe
  have c1 : w1.cell? ⟨g, 1, none⟩ = some (.string x1) := by
    have h3 := (HKB.out w1 (Below.refl _ _)).cell 1
    rw [h3, hx1]; rfl
  have c2 : w1.cell? ⟨g, 2, none⟩ = some (.string x2) := by
    have h3 := (HKB.out w1 (Below.refl _ _)).cell 2
    rw [h3, hx2]; rfl
  clear hw1 hf hD ih hA hn hc hg hde hx1 hx2 ho hs hoe
  go_enter Try.func46, Try.ntmps46
  go_upto_region 1 with fail
  rw [← HW1.out, ← HG.out]
  go_upto_region 3 with fail
  have HI0 := Lib.hid (show PartsR left (1 + (x1.size + x2.size : Int) / 100) (o + (D.take 0).sum) by
    have := HOE.out
    simp only [List.take_zero, List.sum_nil]
    unfold PartsR
    omega)
  go_loopw [5, 6] (fun v5 v6 wr => ∃ (k : Nat) (r : Int), k ≤ n ∧ v6 = .int .i64 k ∧ v5 = .int .i64 r ∧ Hid (PartsR left r (o + (D.take k).sum)) ∧ Hid (Below w1.heap.size w1 wr)) (fun _ i _ => n - (intOf i).toNat)
  case atStart => exact ⟨0, _, by omega, rfl, rfl, HI0, Lib.hid (Below.refl _ _)⟩
  case round =>
    clear c1 c2 HI0
    obtain ⟨k, r, hk, rfl, rfl, HR, HB⟩ := hrel
    have c3 := HC3.out wr HB.out
    have hr0 : 0 ≤ r ∧ r ≤ left + 3000000000000 := by rcases HR.out with ⟨h1, h2⟩ | ⟨h1, h2, h3⟩ <;> omega
    by_cases hlt : k < n
    · have hkz0 : (0 : Int) ≤ (k : Int) := by omega
      have hkz1 : (k : Int) < (n : Int) := by omega
      by_cases hrl : r < left
      · have hkz : k < f.ks.length := by have := HN.out; omega
        obtain ⟨b, off, rfl, q0, q1, q2, q3⟩ := kid_cells (HA.out.keep (Nat.le_refl _) (bthen HB1.out HB.out)) hkz
        obtain ⟨x, hx⟩ : ∃ x, x = f.ks[k] := ⟨_, rfl⟩
        have hxm : x ∈ f.ks := by rw [hx]; exact List.getElem_mem _
        have HX := Lib.hid (HIH.out x hxm wr (FIn.keep x (HF.out.kid x hxm) (Nat.le_refl _) (bthen HB1.out HB.out)) (left - r) (by omega) (by omega))
        have HS := Lib.hid (show (D.take (k + 1)).sum = (D.take k).sum + x.tot by
          rw [take_snoc _ _ (by rw [HD.out]; simpa using hkz), List.sum_append]
          simp [HD.out, hx])
        rw [← hx] at q0 q1 q2 q3
        obtain ⟨u, hu⟩ : ∃ u, u = (D.take k).sum := ⟨_, rfl⟩
        rw [← hu] at HS HR
        obtain ⟨y, hy⟩ : ∃ y, y = x.tot := ⟨_, rfl⟩
        rw [← hy] at HS HX
        clear hx hxm hy hlt hu
        go_wp2_with (go_at_call 46; refine HX.out.mono ?_; rintro e w2 ⟨⟨r2, rfl, hr2⟩, hb⟩; have HB2 := Lib.hid hb; have HR2 := Lib.hid hr2; have hr2b : 0 ≤ r2 ∧ r2 ≤ left - r + 3000000000000 := (by rcases hr2 with ⟨h1, h2⟩ | ⟨h1, h2, h3⟩ <;> omega); clear hb hr2)
        go_roundw
        case rel => exact ⟨k + 1, r + r2, by omega, by go_num, rfl, Lib.hid (by
          have h1 := HR.out
          have h2 := HR2.out
          have h3 := HS.out
          rw [h3]
          unfold PartsR at *
          omega), Lib.hid (bthen HB.out HB2.out)⟩
        case measure => simp [intOf]; omega
      · have HE := Lib.hid (show PartsR left r f.tot by
          have h1 := sum_take D k
          have h2 := HDE.out
          have h3 := HR.out
          unfold PartsR at *
          omega)
        go_wp2_with fail
        go_ret
        exact ⟨⟨r, rfl, HE.out⟩, bthen HB1.out HB.out⟩
    · obtain rfl : k = n := by omega
      have hkz1 : ¬ (k : Int) < (k : Int) := by omega
      have HE := Lib.hid (show PartsR left r f.tot by
        have h1 : D.take k = D := List.take_of_length_le (by rw [HD.out]; simpa using Nat.le_of_eq HN.out.symm)
        have h2 := HDE.out
        have h3 := HR.out
        rw [h1] at h3
        rw [h2]; exact h3)
      go_wp2_with fail
      go_ret
      exact ⟨⟨r, rfl, HE.out⟩, bthen HB1.out HB.out⟩
end Go.Proofs.Ytgaallkdfcckpaa
