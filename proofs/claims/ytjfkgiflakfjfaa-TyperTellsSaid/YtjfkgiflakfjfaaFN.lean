/- Whether a query is built as one: the program's shaped (19) and its closures (33, 34). -/
import Derived.Test.YtjfkgiflakfjfaaFM
namespace Go.Proofs.Ytjfkgiflakfjfaa
open Go.RowKit Go.Maps Go.Lib Go.Shelf
set_option linter.unusedSimpArgs false
set_option linter.unusedVariables false
set_option maxRecDepth 100000 in
set_option maxHeartbeats 8000000 in
theorem wt33 (fn : Int) (s : ByteArray) (w : World) : Calls Try.prog 33 #[.agg #[.int .i64 fn, .string s]] w fun e w' => e = .returned (.bool (!termB fn (decide (s = ⟨#[]⟩)))) ∧ Below w.heap.size w w' := by
  obtain ⟨oo, hoo⟩ : ∃ o, o = !termB fn (decide (s = ⟨#[]⟩)) := ⟨_, rfl⟩
  rw [← hoo]
  have HOP := Lib.hid hoo
  obtain ⟨w1, hw1⟩ : ∃ w1, w1 = w.alloc (.cells #[.int .i64 fn, .string s] 47) := ⟨_, rfl⟩
  have HB := Lib.hid (show Below w.heap.size w w1 by rw [hw1]; exact bpush (Below.refl _ _) _)
  have hK : Blk w1 w.heap.size 47 #[.int .i64 fn, .string s] := by rw [hw1]; exact Blk.new _ _ _
  have c0 : w1.cell? ⟨w.heap.size, 0, none⟩ = some (.int .i64 fn) := by rw [hK.cell 0]; rfl
  have c1 : w1.cell? ⟨w.heap.size, 1, none⟩ = some (.string s) := by rw [hK.cell 1]; rfl
  have HW1 := Lib.hid hw1
  clear hw1 hK hoo
  go_enter Try.func33, Try.ntmps33
  go_upto_region 1 with fail
  rw [← HW1.out]
  by_cases h1 : fn < 0
  · have HE := Lib.hid (show oo = true by rw [HOP.out]; simp [termB, show ¬ 0 ≤ fn by omega])
    go_wp2_with fail
    go_ret
    exact ⟨by rw [HE.out]; rfl, HB.out⟩
  by_cases h2 : 3 < fn
  · have HE := Lib.hid (show oo = true by rw [HOP.out]; simp [termB, show ¬ fn ≤ 3 by omega])
    go_wp2_with fail
    go_ret
    exact ⟨by rw [HE.out]; rfl, HB.out⟩
  have h3 : 0 ≤ fn := by omega
  have h4 : fn ≤ 3 := by omega
  by_cases z : s = ⟨#[]⟩
  · by_cases h5 : fn = 0
    · have HE := Lib.hid (show oo = false by rw [HOP.out, decide_eq_true z]; simp [termB, h5])
      subst h5 z
      go_wp2_with fail
      go_ret
      exact ⟨by rw [HE.out]; rfl, HB.out⟩
    · have HE := Lib.hid (show oo = true by rw [HOP.out, decide_eq_true z]; simp [termB, h3, h4, h5])
      have h5b : (fn == 0) = false := by simp [h5]
      subst z
      go_wp2_with fail
      go_ret
      exact ⟨by rw [HE.out]; rfl, HB.out⟩
  · have y : ¬ s.toList = [] := by
      have := str_ne_lit (l := []) z
      simpa using this
    have v : (s.toList == []) = false := str_ne_lit (l := []) z
    by_cases h5 : fn = 0
    · have HE := Lib.hid (show oo = true by rw [HOP.out, decide_eq_false z]; simp [termB, h5])
      subst h5
      go_wp2_with fail
      go_ret
      exact ⟨by rw [HE.out]; rfl, HB.out⟩
    · have HE := Lib.hid (show oo = false by rw [HOP.out, decide_eq_false z]; simp [termB, h3, h4, h5])
      have h5b : (fn == 0) = false := by simp [h5]
      go_wp2_with fail
      go_ret
      exact ⟨by rw [HE.out]; rfl, HB.out⟩
def tmOk (t : Int × ByteArray) : Bool := termB t.1 (decide (t.2 = ⟨#[]⟩))
def hvOk (h : Int × ByteArray × Int × Int) : Bool := termB h.1 (decide (h.2.1 = ⟨#[]⟩)) && decide (-1 ≤ h.2.2.1) && decide (h.2.2.1 ≤ 1) && decide (-4611686018427387904 ≤ h.2.2.2) && decide (h.2.2.2 ≤ 4611686018427387904)
set_option maxRecDepth 100000 in
set_option maxHeartbeats 8000000 in
theorem wh34 (h : Int × ByteArray × Int × Int) (P : Nat) (w : World) (hP : w.cell? ⟨P, 0, none⟩ = some (.func (.func 33) #[] #[])) : Calls Try.prog 34 #[.agg #[.int .i64 h.1, .string h.2.1, .int .i64 h.2.2.1, .int .i64 h.2.2.2], .pointer (some ⟨P, 0, none⟩)] w fun e w' => e = .returned (.bool (!hvOk h)) ∧ Below w.heap.size w w' := by
  obtain ⟨fn, s, sg, vl⟩ := h
  obtain ⟨oo, hoo⟩ : ∃ o, o = !hvOk (fn, s, sg, vl) := ⟨_, rfl⟩
  rw [← hoo]
  unfold hvOk at hoo
  simp only at hoo ⊢
  have HWT := Lib.hid (fun W => wt33 fn s W)
  obtain ⟨b, hb⟩ : ∃ b, b = termB fn (decide (s = ⟨#[]⟩)) := ⟨_, rfl⟩
  rw [← hb] at hoo HWT
  have HOP := Lib.hid hoo
  obtain ⟨w1, hw1⟩ : ∃ w1, w1 = w.alloc (.cells #[.int .i64 fn, .string s, .int .i64 sg, .int .i64 vl] 61) := ⟨_, rfl⟩
  have hb1 : Below w.heap.size w w1 := by rw [hw1]; exact bpush (Below.refl _ _) _
  have HB := Lib.hid hb1
  have hK : ∀ i u, (#[.int .i64 fn, .string s, .int .i64 sg, .int .i64 vl] : Array Value)[i]? = some u → w1.cell? ⟨w.heap.size, i, none⟩ = some u := fun i u hu => by rw [hw1]; exact cell_made rfl hu
  have HK := Lib.hid hK
  have cP : w1.cell? ⟨P, 0, none⟩ = some (.func (.func 33) #[] #[]) := cell_on hb1 hP
  have c0 : w1.cell? ⟨w.heap.size, 0, none⟩ = some (.int .i64 fn) := hK 0 _ rfl
  have c1 : w1.cell? ⟨w.heap.size, 1, none⟩ = some (.string s) := hK 1 _ rfl
  have HW1 := Lib.hid hw1
  clear hw1 hK hoo hb hb1 hP
  go_enter Try.func34, Try.ntmps34
  go_upto_region 1 with fail
  rw [← HW1.out]
  cases b with
  | false =>
    have HE := Lib.hid (show oo = true by rw [HOP.out]; rfl)
    go_wp2_with (go_at_call 33; refine (HWT.out _).mono ?_; rintro e w2 ⟨rfl, hb⟩; have HB2 := Lib.hid hb; clear hb)
    go_ret
    exact ⟨by rw [HE.out]; rfl, bthen HB.out HB2.out⟩
  | true =>
  by_cases k0 : sg < -1
  · have HE := Lib.hid (show oo = true by rw [HOP.out]; simp; omega)
    go_wp2_with (go_at_call 33; refine (HWT.out _).mono ?_; rintro e w2 ⟨rfl, hb⟩; have HB2 := Lib.hid hb; have c2 := cell_on hb (HK.out 2 _ rfl); have c3 := cell_on hb (HK.out 3 _ rfl); clear hb)
    go_ret
    exact ⟨by rw [HE.out]; rfl, bthen HB.out HB2.out⟩
  by_cases k1 : 1 < sg
  · have HE := Lib.hid (show oo = true by rw [HOP.out]; simp; omega)
    go_wp2_with (go_at_call 33; refine (HWT.out _).mono ?_; rintro e w2 ⟨rfl, hb⟩; have HB2 := Lib.hid hb; have c2 := cell_on hb (HK.out 2 _ rfl); have c3 := cell_on hb (HK.out 3 _ rfl); clear hb)
    go_ret
    exact ⟨by rw [HE.out]; rfl, bthen HB.out HB2.out⟩
  by_cases k2 : vl < -4611686018427387904
  · have HE := Lib.hid (show oo = true by rw [HOP.out]; simp; omega)
    go_wp2_with (go_at_call 33; refine (HWT.out _).mono ?_; rintro e w2 ⟨rfl, hb⟩; have HB2 := Lib.hid hb; have c2 := cell_on hb (HK.out 2 _ rfl); have c3 := cell_on hb (HK.out 3 _ rfl); clear hb)
    go_ret
    exact ⟨by rw [HE.out]; rfl, bthen HB.out HB2.out⟩
  by_cases k3 : 4611686018427387904 < vl
  · have HE := Lib.hid (show oo = true by rw [HOP.out]; simp; omega)
    go_wp2_with (go_at_call 33; refine (HWT.out _).mono ?_; rintro e w2 ⟨rfl, hb⟩; have HB2 := Lib.hid hb; have c2 := cell_on hb (HK.out 2 _ rfl); have c3 := cell_on hb (HK.out 3 _ rfl); clear hb)
    go_ret
    exact ⟨by rw [HE.out]; rfl, bthen HB.out HB2.out⟩
  have kd0 : decide (sg < -1) = false := decide_eq_false k0
  have kd1 : decide (1 < sg) = false := decide_eq_false k1
  have kd2 : decide (vl < -4611686018427387904) = false := decide_eq_false k2
  have kd3 : decide (4611686018427387904 < vl) = false := decide_eq_false k3
  have HE := Lib.hid (show oo = false by rw [HOP.out]; simp; omega)
  go_wp2_with (go_at_call 33; refine (HWT.out _).mono ?_; rintro e w2 ⟨rfl, hb⟩; have HB2 := Lib.hid hb; have c2 := cell_on hb (HK.out 2 _ rfl); have c3 := cell_on hb (HK.out 3 _ rfl); clear hb)
  go_ret
  exact ⟨by rw [HE.out]; rfl, bthen HB.out HB2.out⟩
/-- The query's box. -/
def qc (q : QZ) : Array Value := #[.slice q.tA q.tn q.tc, .int .i64 q.frm, .int .i64 q.upto, .int .i64 q.every, .slice q.bA q.bn q.bc, .int .i64 q.f.op, .string q.f.dim, .string q.f.val, .slice q.f.A q.f.n q.f.c, .slice q.hA q.hn q.hc, .int .i64 q.order, .int .i64 q.limit]
def shapeS (q : QZ) : Bool := decide (1 ≤ q.tn) && decide (q.tn ≤ 8) && decide (q.bn ≤ 6) && decide (q.hn ≤ 8) && q.T.all tmOk && q.H.all hvOk && q.f.shp 1
set_option maxRecDepth 100000 in
set_option maxHeartbeats 16000000 in
theorem shaped_any (q : QZ) (w : World) (hq : QIn w q) : Calls Try.prog 19 #[.agg #[.slice q.tA q.tn q.tc, .int .i64 q.frm, .int .i64 q.upto, .int .i64 q.every, .slice q.bA q.bn q.bc, .int .i64 q.f.op, .string q.f.dim, .string q.f.val, .slice q.f.A q.f.n q.f.c, .slice q.hA q.hn q.hc, .int .i64 q.order, .int .i64 q.limit]] w fun e w' => e = .returned (.bool (shapeS q)) ∧ Below w.heap.size w w' := by
  obtain ⟨w1, hw1⟩ : ∃ w1, w1 = (w.alloc (.cells #[.slice q.tA q.tn q.tc, .int .i64 q.frm, .int .i64 q.upto, .int .i64 q.every, .slice q.bA q.bn q.bc, .int .i64 q.f.op, .string q.f.dim, .string q.f.val, .slice q.f.A q.f.n q.f.c, .slice q.hA q.hn q.hc, .int .i64 q.order, .int .i64 q.limit] 32)).alloc (.cells #[.func (.func 33) #[] #[]] 59) := ⟨_, rfl⟩
  have hb1 : Below w.heap.size w w1 := by rw [hw1]; exact bpush (bpush (Below.refl _ _) _) _
  have HB1 := Lib.hid hb1
  have hK : ∀ i u, (#[.slice q.tA q.tn q.tc, .int .i64 q.frm, .int .i64 q.upto, .int .i64 q.every, .slice q.bA q.bn q.bc, .int .i64 q.f.op, .string q.f.dim, .string q.f.val, .slice q.f.A q.f.n q.f.c, .slice q.hA q.hn q.hc, .int .i64 q.order, .int .i64 q.limit] : Array Value)[i]? = some u → w1.cell? ⟨w.heap.size, i, none⟩ = some u := fun i u hu => by
    rw [hw1]
    exact cell_on (W := w.alloc (.cells #[.slice q.tA q.tn q.tc, .int .i64 q.frm, .int .i64 q.upto, .int .i64 q.every, .slice q.bA q.bn q.bc, .int .i64 q.f.op, .string q.f.dim, .string q.f.val, .slice q.f.A q.f.n q.f.c, .slice q.hA q.hn q.hc, .int .i64 q.order, .int .i64 q.limit] 32)) (bpush (Below.refl _ _) _) (cell_made rfl hu)
  have cP : w1.cell? ⟨w.heap.size + 1, 0, none⟩ = some (.func (.func 33) #[] #[]) := by rw [hw1]; exact cell_made (by simp) rfl
  have HK := Lib.hid hK
  have HP := Lib.hid cP
  have HQ := Lib.hid hq
  have HW1 := Lib.hid hw1
  have c0 : w1.cell? ⟨w.heap.size, 0, none⟩ = some (.slice q.tA q.tn q.tc) := hK 0 _ rfl
  have c4 : w1.cell? ⟨w.heap.size, 4, none⟩ = some (.slice q.bA q.bn q.bc) := hK 4 _ rfl
  have c9 : w1.cell? ⟨w.heap.size, 9, none⟩ = some (.slice q.hA q.hn q.hc) := hK 9 _ rfl
  obtain ⟨oo, hoo⟩ : ∃ o, o = shapeS q := ⟨_, rfl⟩
  rw [← hoo]
  unfold shapeS at hoo
  have HOO := Lib.hid hoo
  clear hw1 hK hb1 hq hoo
  go_enter Try.func19, Try.ntmps19
  go_upto_region 3 with fail
  rw [← HW1.out]
  by_cases k0 : q.tn < 1
  · have HE := Lib.hid (show oo = false by rw [HOO.out, decide_eq_false (show ¬ 1 ≤ q.tn by omega)]; simp)
    have kz0 : (q.tn : Int) < 1 := by omega
    go_wp2_with fail
    go_ret
    exact ⟨by rw [HE.out]; rfl, HB1.out⟩
  have kz0 : ¬ (q.tn : Int) < 1 := by omega
  by_cases k1 : 8 < q.tn
  · have HE := Lib.hid (show oo = false by rw [HOO.out, decide_eq_false (show ¬ q.tn ≤ 8 by omega)]; simp)
    have kz1 : 8 < (q.tn : Int) := by omega
    go_wp2_with fail
    go_ret
    exact ⟨by rw [HE.out]; rfl, HB1.out⟩
  have kz1 : ¬ 8 < (q.tn : Int) := by omega
  by_cases k2 : 6 < q.bn
  · have HE := Lib.hid (show oo = false by rw [HOO.out, decide_eq_false (show ¬ q.bn ≤ 6 by omega)]; simp)
    have kz2 : 6 < (q.bn : Int) := by omega
    go_wp2_with fail
    go_ret
    exact ⟨by rw [HE.out]; rfl, HB1.out⟩
  have kz2 : ¬ 6 < (q.bn : Int) := by omega
  by_cases k3 : 8 < q.hn
  · have HE := Lib.hid (show oo = false by rw [HOO.out, decide_eq_false (show ¬ q.hn ≤ 8 by omega)]; simp)
    have kz3 : 8 < (q.hn : Int) := by omega
    go_wp2_with fail
    go_ret
    exact ⟨by rw [HE.out]; rfl, HB1.out⟩
  have kz3 : ¬ 8 < (q.hn : Int) := by omega
  have HTT := Lib.hid (fun (W : World) (hW : Below w1.heap.size w1 W) => hasT_any q.tA q.tn q.tc 33 #[] (fun t => !tmOk t) q.T W (HQ.out.trow.keep (Nat.le_refl _) (bthen HB1.out hW)) HQ.out.tlen HQ.out.tmax (fun args w => rfl) (fun W2 hW2 x hx => wt33 x.1 x.2 W2))
  have HHH := Lib.hid (fun (W : World) (hW : Below w1.heap.size w1 W) => hasH_any q.hA q.hn q.hc 34 #[.pointer (some ⟨w.heap.size + 1, 0, none⟩)] (fun t => !hvOk t) q.H W (HQ.out.hrow.keep (Nat.le_refl _) (bthen HB1.out hW)) HQ.out.hlen HQ.out.hmax (fun args w => rfl) (fun W2 hW2 x hx => wh34 x (w.heap.size + 1) W2 (cell_on (bthen hW hW2) HP.out)))
  have HFF := Lib.hid (fun (W : World) (hW : Below w1.heap.size w1 W) => fshaped_any q.f W (FIn.keep q.f HQ.out.f (Nat.le_refl _) (bthen HB1.out hW)))
  obtain ⟨bt, hbt⟩ : ∃ b, b = q.T.any fun t => !tmOk t := ⟨_, rfl⟩
  obtain ⟨bh, hbh⟩ : ∃ b, b = q.H.any fun t => !hvOk t := ⟨_, rfl⟩
  obtain ⟨bf, hbf⟩ : ∃ b, b = q.f.shp 1 := ⟨_, rfl⟩
  rw [← hbt] at HTT
  rw [← hbh] at HHH
  rw [← hbf] at HFF
  have HOE := Lib.hid (show oo = (!bt && !bh && bf) by
    rw [HOO.out, hbt, hbh, hbf, decide_eq_true (show 1 ≤ q.tn by omega), decide_eq_true (show q.tn ≤ 8 by omega), decide_eq_true (show q.bn ≤ 6 by omega), decide_eq_true (show q.hn ≤ 8 by omega), Bool.true_and, Bool.true_and, Bool.true_and, Bool.true_and, List.all_eq_not_any_not, List.all_eq_not_any_not])
  clear hbt hbh hbf
  cases bt with
  | true =>
    go_wp2_with (first
      | (go_at_call 35; refine (HTT.out _ (Below.refl _ _)).mono ?_; rintro e w2 ⟨rfl, hb⟩; have HB2 := Lib.hid hb; have d9 := cell_on hb c9; have HT2 := Lib.hid hb; clear hb)
      | (go_at_call 36; refine (HHH.out _ HB2.out).mono ?_; rintro e w3 ⟨rfl, hb⟩; have HB3 := Lib.hid (bthen HB2.out hb); have d5 := cell_on HB3.out (HK.out 5 _ rfl); have d6 := cell_on HB3.out (HK.out 6 _ rfl); have d7 := cell_on HB3.out (HK.out 7 _ rfl); have d8 := cell_on HB3.out (HK.out 8 _ rfl); clear hb)
      | (go_at_call 37; refine (HFF.out _ HB3.out).mono ?_; rintro e w4 ⟨rfl, hb⟩; have HB4 := Lib.hid (bthen HB3.out hb); clear hb))
    go_ret
    exact ⟨by rw [HOE.out]; rfl, bthen HB1.out HB2.out⟩
  | false =>
  cases bh with
  | true =>
    go_wp2_with (first
      | (go_at_call 35; refine (HTT.out _ (Below.refl _ _)).mono ?_; rintro e w2 ⟨rfl, hb⟩; have HB2 := Lib.hid hb; have d9 := cell_on hb c9; have HT2 := Lib.hid hb; clear hb)
      | (go_at_call 36; refine (HHH.out _ HB2.out).mono ?_; rintro e w3 ⟨rfl, hb⟩; have HB3 := Lib.hid (bthen HB2.out hb); have d5 := cell_on HB3.out (HK.out 5 _ rfl); have d6 := cell_on HB3.out (HK.out 6 _ rfl); have d7 := cell_on HB3.out (HK.out 7 _ rfl); have d8 := cell_on HB3.out (HK.out 8 _ rfl); clear hb)
      | (go_at_call 37; refine (HFF.out _ HB3.out).mono ?_; rintro e w4 ⟨rfl, hb⟩; have HB4 := Lib.hid (bthen HB3.out hb); clear hb))
    go_ret
    exact ⟨by rw [HOE.out]; rfl, bthen HB1.out HB3.out⟩
  | false =>
  cases bf with
  | true =>
    go_wp2_with (first
      | (go_at_call 35; refine (HTT.out _ (Below.refl _ _)).mono ?_; rintro e w2 ⟨rfl, hb⟩; have HB2 := Lib.hid hb; have d9 := cell_on hb c9; have HT2 := Lib.hid hb; clear hb)
      | (go_at_call 36; refine (HHH.out _ HB2.out).mono ?_; rintro e w3 ⟨rfl, hb⟩; have HB3 := Lib.hid (bthen HB2.out hb); have d5 := cell_on HB3.out (HK.out 5 _ rfl); have d6 := cell_on HB3.out (HK.out 6 _ rfl); have d7 := cell_on HB3.out (HK.out 7 _ rfl); have d8 := cell_on HB3.out (HK.out 8 _ rfl); clear hb)
      | (go_at_call 37; refine (HFF.out _ HB3.out).mono ?_; rintro e w4 ⟨rfl, hb⟩; have HB4 := Lib.hid (bthen HB3.out hb); clear hb))
    go_ret
    exact ⟨by rw [HOE.out]; rfl, bthen HB1.out HB4.out⟩
  | false =>
    go_wp2_with (first
      | (go_at_call 35; refine (HTT.out _ (Below.refl _ _)).mono ?_; rintro e w2 ⟨rfl, hb⟩; have HB2 := Lib.hid hb; have d9 := cell_on hb c9; have HT2 := Lib.hid hb; clear hb)
      | (go_at_call 36; refine (HHH.out _ HB2.out).mono ?_; rintro e w3 ⟨rfl, hb⟩; have HB3 := Lib.hid (bthen HB2.out hb); have d5 := cell_on HB3.out (HK.out 5 _ rfl); have d6 := cell_on HB3.out (HK.out 6 _ rfl); have d7 := cell_on HB3.out (HK.out 7 _ rfl); have d8 := cell_on HB3.out (HK.out 8 _ rfl); clear hb)
      | (go_at_call 37; refine (HFF.out _ HB3.out).mono ?_; rintro e w4 ⟨rfl, hb⟩; have HB4 := Lib.hid (bthen HB3.out hb); clear hb))
    go_ret
    exact ⟨by rw [HOE.out]; rfl, bthen HB1.out HB4.out⟩
end Go.Proofs.Ytjfkgiflakfjfaa
