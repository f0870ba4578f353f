/- Whether a filter may be, so deep at most: the document's answer (47). -/
import Derived.Test.YtgaallkdfcckpaaFC
namespace Go.Proofs.Ytgaallkdfcckpaa
open Go.RowKit Go.Maps Go.Lib
set_option linter.unusedSimpArgs false
set_option linter.unusedVariables false
def opB (op : Int) (n : Nat) (b1 b2 : Bool) : Bool :=
  if op = 1 then decide (n = 0) else if op = 2 then decide (n = 0) && b2
  else if op = 3 then decide (n = 1) && b1 && b2
  else if op = 4 ∨ op = 5 then decide (2 ≤ n) && b1 && b2 else false
def opOk (op : Int) (n : Nat) (x1 x2 : ByteArray) : Bool := opB op n (decide (x1 = ⟨#[]⟩)) (decide (x2 = ⟨#[]⟩))
def FT.form : FT → Nat → Bool := FT.fold fun f l d => match d with | 0 => false | d + 1 => l.all (fun g => g d) && opOk f.op f.n f.dim f.val
theorem FT.form_zero (f : FT) : f.form 0 = false := by unfold FT.form; rw [FT.fold_eq]
theorem FT.form_eq (f : FT) (d : Nat) : f.form (d + 1) = ((f.ks.map fun x => x.form d).all id && opOk f.op f.n f.dim f.val) := by
  unfold FT.form; rw [FT.fold_eq]; simp only [List.all_map]; rfl
set_option maxRecDepth 100000 in
set_option maxHeartbeats 32000000 in
theorem form_any : ∀ (f : FT) (w : World), FIn w f → ∀ d : Nat, d ≤ 1000 → Calls Try.prog 70 #[.agg #[.int .i64 f.op, .string f.dim, .string f.val, .slice f.A f.n f.c], .int .i64 d] w fun e w' => e = .returned (.bool (f.form d)) ∧ Below w.heap.size w w' := by
  intro f
  induction f using FT.ind with
  | h f ih =>
  intro w hf d hd
  obtain ⟨w1, hw1⟩ : ∃ w1, w1 = w.alloc (.cells #[.int .i64 f.op, .string f.dim, .string f.val, .slice f.A f.n f.c] 39) := ⟨_, rfl⟩
  have HB1 := Lib.hid (show Below w.heap.size w w1 by rw [hw1]; exact bpush (Below.refl _ _) _)
  have HK := Lib.hid (show Blk w1 w.heap.size 39 #[.int .i64 f.op, .string f.dim, .string f.val, .slice f.A f.n f.c] by rw [hw1]; exact Blk.new _ _ _)
  have HW1 := Lib.hid hw1
  have HF := Lib.hid hf
  have HIH := Lib.hid ih
  obtain ⟨A, hA⟩ : ∃ A, A = f.A := ⟨_, rfl⟩
  obtain ⟨n, hn⟩ : ∃ n, n = f.n := ⟨_, rfl⟩
  obtain ⟨c, hc⟩ : ∃ c, c = f.c := ⟨_, rfl⟩
  have HA := Lib.hid (show Row w A (cellsK f.ks) by rw [hA]; exact hf.top.row)
  have HN := Lib.hid (show n = f.ks.length by rw [hn]; exact hf.top.len)
  have hn2 : n ≤ 9223372036854775807 := by rw [hn]; exact hf.top.max
  have hnc : n ≤ c := by rw [hn, hc]; exact hf.top.cap
  obtain ⟨g, hg⟩ : ∃ g, g = w.heap.size := ⟨_, rfl⟩
  have HG := Lib.hid hg
  have HKB := Lib.hid (fun W (hb : Below w1.heap.size w1 W) => show Blk W g 39 #[.int .i64 f.op, .string f.dim, .string f.val, .slice f.A f.n f.c] from by
    have hl := HK.out.lt
    rw [hg]
    exact (hb.block _ hl).trans HK.out)
  have HC3 := Lib.hid (fun W (hb : Below w1.heap.size w1 W) => show W.cell? ⟨g, 3, none⟩ = some (.slice A n c) from by
    have h3 := (HKB.out W hb).cell 3
    rw [h3, hA, hn, hc]; rfl)
  cases d with
  | zero =>
    have HZ := Lib.hid f.form_zero
    clear HIH hw1 hf ih hA hn hc hg HC3 HKB
    have c3 : w1.cell? ⟨w.heap.size, 3, none⟩ = some (.slice f.A f.n f.c) := by simpa using HK.out.cell 3
    go_enter Try.func70, Try.ntmps70
    go_upto_region 1 with fail
    rw [← HW1.out]
    go_wp2_with fail
    go_ret
    exact ⟨by rw [HZ.out]; rfl, HB1.out⟩
  | succ d =>
  obtain ⟨D, hD⟩ : ∃ D, D = f.ks.map (fun x => x.form d) := ⟨_, rfl⟩
  obtain ⟨x1, hx1⟩ : ∃ x, x = f.dim := ⟨_, rfl⟩
  obtain ⟨x2, hx2⟩ : ∃ x, x = f.val := ⟨_, rfl⟩
  obtain ⟨op, hopx⟩ : ∃ x, x = f.op := ⟨_, rfl⟩
  obtain ⟨oo, hoo⟩ : ∃ o, o = opOk op n x1 x2 := ⟨_, rfl⟩
  have hde : f.form (d + 1) = (D.all id && oo) := by rw [hD, f.form_eq, hoo, hopx, hn, hx1, hx2]
  have HCC := Lib.hid (fun W (hb : Below w1.heap.size w1 W) => show W.cell? ⟨g, 0, none⟩ = some (.int .i64 op) ∧ W.cell? ⟨g, 1, none⟩ = some (.string x1) ∧ W.cell? ⟨g, 2, none⟩ = some (.string x2) from by
    have hk := HKB.out W hb
    rw [hk.cell 0, hk.cell 1, hk.cell 2, hopx, hx1, hx2]
    exact ⟨rfl, rfl, rfl⟩)
  have HDE := Lib.hid hde
  have HD := Lib.hid hD
  have HOO := Lib.hid hoo
  have c3 := HC3.out w1 (Below.refl _ _)
  obtain ⟨z, hz⟩ : ∃ z : Int, z = ((d + 1 : Nat) : Int) := ⟨_, rfl⟩
  rw [← hz]
  have hdd : z - 1 = (d : Int) := by omega
  have hdz : ¬ z = 0 := by omega
  have hdzb : (z == 0) = false := by simp [hdz]
  have hz1 : 0 ≤ z := by omega
  have hz2 : z ≤ 2000 := by omega
  clear hz
  clear hw1 hf hD ih hA hn hc hg hde hx1 hx2 hopx hoo
  go_enter Try.func70, Try.ntmps70
  go_upto_region 1 with fail
  rw [← HW1.out, ← HG.out]
  go_upto_region 5 with fail
  clear c3
  go_loopw [4, 6, 7] (fun v4 v6 v7 wr => ∃ k : Nat, k ≤ n ∧ v6 = .int .i64 k ∧ v4 = .bool false ∧ Hid ((D.take k).all id = true) ∧ Hid (Below w1.heap.size w1 wr)) (fun _ i _ _ => n - (intOf i).toNat)
  case atStart => exact ⟨0, by omega, rfl, rfl, Lib.hid (by simp), Lib.hid (Below.refl _ _)⟩
  case round =>
    obtain ⟨k, hk, rfl, rfl, HR, HB⟩ := hrel
    have c3 := HC3.out wr HB.out
    by_cases hlt : k < n
    · have hkz0 : (0 : Int) ≤ (k : Int) := by omega
      have hkz1 : (k : Int) < (n : Int) := by omega
      have hkz : k < f.ks.length := by have := HN.out; omega
      obtain ⟨b, off, rfl, q0, q1, q2, q3⟩ := kid_cells (HA.out.keep (Nat.le_refl _) (bthen HB1.out HB.out)) hkz
      obtain ⟨x, hx⟩ : ∃ x, x = f.ks[k] := ⟨_, rfl⟩
      have hxm : x ∈ f.ks := by rw [hx]; exact List.getElem_mem _
      have HX := Lib.hid (HIH.out x hxm wr (FIn.keep x (HF.out.kid x hxm) (Nat.le_refl _) (bthen HB1.out HB.out)) d (by omega))
      obtain ⟨y, hy⟩ : ∃ y, y = x.form d := ⟨_, rfl⟩
      have hyD : y ∈ D := by rw [HD.out, hy]; exact List.mem_map.2 ⟨x, hxm, rfl⟩
      have HS := Lib.hid (show (D.take (k + 1)).all id = y by
        rw [take_snoc _ _ (by rw [HD.out]; simpa using hkz), List.all_append, HR.out]
        simp [HD.out, ← hx, ← hy])
      rw [← hx] at q0 q1 q2 q3
      rw [← hy] at HX
      have HYD := Lib.hid hyD
      clear hx hxm hy hlt hyD
      cases y with
      | true =>
        go_wp2_with (go_at_call 70; refine HX.out.mono ?_; rintro e w2 ⟨rfl, hb⟩; have HB2 := Lib.hid hb; clear hb)
        go_roundw
        case rel => exact ⟨k + 1, by omega, by go_num, rfl, HS, Lib.hid (bthen HB.out HB2.out)⟩
        case measure => simp [intOf]; omega
      | false =>
        have HE := Lib.hid (show f.form (d + 1) = false by
          rw [HDE.out]
          have : D.all id = false := by
            rw [Bool.eq_false_iff]
            intro h
            have := List.all_eq_true.1 h _ HYD.out
            simp at this
          rw [this]; rfl)
        go_wp2_with (go_at_call 70; refine HX.out.mono ?_; rintro e w2 ⟨rfl, hb⟩; have HB2 := Lib.hid hb; clear hb)
        go_ret
        exact ⟨by rw [HE.out]; rfl, bthen HB1.out (bthen HB.out HB2.out)⟩
    · obtain rfl : k = n := by omega
      have hkz1 : ¬ (k : Int) < (k : Int) := by omega
      have HE := Lib.hid (show f.form (d + 1) = oo by
        have h1 : D.take k = D := List.take_of_length_le (by rw [HD.out]; simpa using Nat.le_of_eq HN.out.symm)
        have h2 := HR.out
        rw [h1] at h2
        rw [HDE.out, h2]; rfl)
      have hop := HOO.out
      obtain ⟨c0, c1, c2⟩ := HCC.out wr HB.out
      clear HR HDE HD HCC HOO hlt
      by_cases o1 : op = 1
      · subst o1
        by_cases m : k = 0
        · have m1 : ((k : Nat) : Int) = 0 := by omega
          go_wp2_with fail
          go_ret
          exact ⟨by rw [HE.out, hop]; simp only [opOk]; simp [opB, m]; try rfl, bthen HB1.out HB.out⟩
        · have m1 : ¬ ((k : Nat) : Int) = 0 := by omega
          go_wp2_with fail
          go_ret
          exact ⟨by rw [HE.out, hop]; simp only [opOk]; simp [opB, m]; try rfl, bthen HB1.out HB.out⟩
      by_cases o2 : op = 2
      · subst o2
        by_cases m : k = 0
        · by_cases z2 : x2 = ⟨#[]⟩
          · have m1 : ((k : Nat) : Int) = 0 := by omega
            go_wp2_with fail
            go_ret
            exact ⟨by rw [HE.out, hop]; simp only [opOk]; rw [decide_eq_true z2]; simp [opB, m]; try rfl, bthen HB1.out HB.out⟩
          · have m1 : ((k : Nat) : Int) = 0 := by omega
            have y2 : ¬ x2.toList = [] := by
              have := str_ne_lit (l := []) z2
              simpa using this
            have v2 : (x2.toList == []) = false := str_ne_lit (l := []) z2
            go_wp2_with fail
            go_ret
            exact ⟨by rw [HE.out, hop]; simp only [opOk]; rw [decide_eq_false z2]; simp [opB, m, y2, v2]; try rfl, bthen HB1.out HB.out⟩
        · have m1 : ¬ ((k : Nat) : Int) = 0 := by omega
          go_wp2_with fail
          go_ret
          exact ⟨by rw [HE.out, hop]; simp only [opOk]; simp [opB, m]; try rfl, bthen HB1.out HB.out⟩
      by_cases o3 : op = 3
      · subst o3
        by_cases m : k = 1
        · by_cases z1 : x1 = ⟨#[]⟩
          · by_cases z2 : x2 = ⟨#[]⟩
            · have m1 : ((k : Nat) : Int) = 1 := by omega
              go_wp2_with fail
              go_ret
              exact ⟨by rw [HE.out, hop]; simp only [opOk]; rw [decide_eq_true z1]; rw [decide_eq_true z2]; simp [opB, m]; try rfl, bthen HB1.out HB.out⟩
            · have m1 : ((k : Nat) : Int) = 1 := by omega
              have y2 : ¬ x2.toList = [] := by
                have := str_ne_lit (l := []) z2
                simpa using this
              have v2 : (x2.toList == []) = false := str_ne_lit (l := []) z2
              go_wp2_with fail
              go_ret
              exact ⟨by rw [HE.out, hop]; simp only [opOk]; rw [decide_eq_true z1]; rw [decide_eq_false z2]; simp [opB, m, y2, v2]; try rfl, bthen HB1.out HB.out⟩
          · have m1 : ((k : Nat) : Int) = 1 := by omega
            have y1 : ¬ x1.toList = [] := by
              have := str_ne_lit (l := []) z1
              simpa using this
            have v1 : (x1.toList == []) = false := str_ne_lit (l := []) z1
            go_wp2_with fail
            go_ret
            exact ⟨by rw [HE.out, hop]; simp only [opOk]; rw [decide_eq_false z1]; simp [opB, m, y1, v1]; try rfl, bthen HB1.out HB.out⟩
        · have m1 : ¬ ((k : Nat) : Int) = 1 := by omega
          go_wp2_with fail
          go_ret
          exact ⟨by rw [HE.out, hop]; simp only [opOk]; simp [opB, m]; try rfl, bthen HB1.out HB.out⟩
      by_cases o4 : op = 4
      · subst o4
        by_cases m : 2 ≤ k
        · by_cases z1 : x1 = ⟨#[]⟩
          · by_cases z2 : x2 = ⟨#[]⟩
            · have m1 : (2 : Int) ≤ ((k : Nat) : Int) := by omega
              go_wp2_with fail
              go_ret
              exact ⟨by rw [HE.out, hop]; simp only [opOk]; rw [decide_eq_true z1]; rw [decide_eq_true z2]; simp [opB, m]; try rfl, bthen HB1.out HB.out⟩
            · have m1 : (2 : Int) ≤ ((k : Nat) : Int) := by omega
              have y2 : ¬ x2.toList = [] := by
                have := str_ne_lit (l := []) z2
                simpa using this
              have v2 : (x2.toList == []) = false := str_ne_lit (l := []) z2
              go_wp2_with fail
              go_ret
              exact ⟨by rw [HE.out, hop]; simp only [opOk]; rw [decide_eq_true z1]; rw [decide_eq_false z2]; simp [opB, m, y2, v2]; try rfl, bthen HB1.out HB.out⟩
          · have m1 : (2 : Int) ≤ ((k : Nat) : Int) := by omega
            have y1 : ¬ x1.toList = [] := by
              have := str_ne_lit (l := []) z1
              simpa using this
            have v1 : (x1.toList == []) = false := str_ne_lit (l := []) z1
            go_wp2_with fail
            go_ret
            exact ⟨by rw [HE.out, hop]; simp only [opOk]; rw [decide_eq_false z1]; simp [opB, m, y1, v1]; try rfl, bthen HB1.out HB.out⟩
        · have m1 : ¬ (2 : Int) ≤ ((k : Nat) : Int) := by omega
          go_wp2_with fail
          go_ret
          exact ⟨by rw [HE.out, hop]; simp only [opOk]; simp [opB, m]; try rfl, bthen HB1.out HB.out⟩
      by_cases o5 : op = 5
      · subst o5
        by_cases m : 2 ≤ k
        · by_cases z1 : x1 = ⟨#[]⟩
          · by_cases z2 : x2 = ⟨#[]⟩
            · have m1 : (2 : Int) ≤ ((k : Nat) : Int) := by omega
              go_wp2_with fail
              go_ret
              exact ⟨by rw [HE.out, hop]; simp only [opOk]; rw [decide_eq_true z1]; rw [decide_eq_true z2]; simp [opB, m]; try rfl, bthen HB1.out HB.out⟩
            · have m1 : (2 : Int) ≤ ((k : Nat) : Int) := by omega
              have y2 : ¬ x2.toList = [] := by
                have := str_ne_lit (l := []) z2
                simpa using this
              have v2 : (x2.toList == []) = false := str_ne_lit (l := []) z2
              go_wp2_with fail
              go_ret
              exact ⟨by rw [HE.out, hop]; simp only [opOk]; rw [decide_eq_true z1]; rw [decide_eq_false z2]; simp [opB, m, y2, v2]; try rfl, bthen HB1.out HB.out⟩
          · have m1 : (2 : Int) ≤ ((k : Nat) : Int) := by omega
            have y1 : ¬ x1.toList = [] := by
              have := str_ne_lit (l := []) z1
              simpa using this
            have v1 : (x1.toList == []) = false := str_ne_lit (l := []) z1
            go_wp2_with fail
            go_ret
            exact ⟨by rw [HE.out, hop]; simp only [opOk]; rw [decide_eq_false z1]; simp [opB, m, y1, v1]; try rfl, bthen HB1.out HB.out⟩
        · have m1 : ¬ (2 : Int) ≤ ((k : Nat) : Int) := by omega
          go_wp2_with fail
          go_ret
          exact ⟨by rw [HE.out, hop]; simp only [opOk]; simp [opB, m]; try rfl, bthen HB1.out HB.out⟩
      go_wp2_with fail
      go_ret
      exact ⟨by rw [HE.out, hop]; simp only [opOk]; simp [opB, o1, o2, o3, o4, o5]; try rfl, bthen HB1.out HB.out⟩
end Go.Proofs.Ytgaallkdfcckpaa
