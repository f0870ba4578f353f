/- The document's shape (22). -/
import Derived.Test.YtgaallkdfcckpaaFS
namespace Go.Proofs.Ytgaallkdfcckpaa
open Go.RowKit Go.Maps Go.Lib Go.Shelf
set_option linter.unusedSimpArgs false
set_option linter.unusedVariables false
def fltR (f : FT) : Bool := if f.op = 0 then (decide (f.n = 0) && decide (f.dim = ⟨#[]⟩) && decide (f.val = ⟨#[]⟩)) else f.form 30
theorem shp_flt (f : FT) (hn : f.n = f.ks.length) : f.shp 1 = fltR f := by
  unfold fltR
  split
  · rename_i h; exact shp_all f h hn
  · rename_i h; exact shp_top f h
def shapeR (q : QZ) : Bool := decide (1 ≤ q.tn) && decide (q.tn ≤ 8) && decide (q.bn ≤ 6) && decide (q.hn ≤ 8) && q.T.all tmOk && q.H.all hvOk && fltR q.f
theorem all_take_false {α : Type} {p : α → Bool} {l : List α} {k : Nat} (hk : k < l.length) (h : p l[k] = false) : l.all p = false := by
  rw [List.all_eq_false]
  exact ⟨l[k], List.getElem_mem _, by simp [h]⟩
theorem all_of {α : Type} {p : α → Bool} {l : List α} (h : ∀ (j : Nat) (hj : j < l.length), p l[j] = true) : l.all p = true := by
  rw [List.all_eq_true]
  intro x hx
  obtain ⟨j, hj, rfl⟩ := List.getElem_of_mem hx
  exact h j hj
set_option maxRecDepth 100000 in
set_option maxHeartbeats 32000000 in
theorem rshape_any (q : QZ) (w : World) (hq : QIn w q) :
    Calls Try.prog 48 #[.agg #[.slice q.tA q.tn q.tc, .int .i64 q.frm, .int .i64 q.upto, .int .i64 q.every, .slice q.bA q.bn q.bc, .int .i64 q.f.op, .string q.f.dim, .string q.f.val, .slice q.f.A q.f.n q.f.c, .slice q.hA q.hn q.hc, .int .i64 q.order, .int .i64 q.limit]] w fun e w' => e = .returned (.bool (shapeR q)) ∧ Below w.heap.size w w' := by
  obtain ⟨w1, hw1⟩ : ∃ w1, w1 = w.alloc (.cells #[.slice q.tA q.tn q.tc, .int .i64 q.frm, .int .i64 q.upto, .int .i64 q.every, .slice q.bA q.bn q.bc, .int .i64 q.f.op, .string q.f.dim, .string q.f.val, .slice q.f.A q.f.n q.f.c, .slice q.hA q.hn q.hc, .int .i64 q.order, .int .i64 q.limit] 42) := ⟨_, rfl⟩
  have hb1 : Below w.heap.size w w1 := by rw [hw1]; exact bpush (Below.refl _ _) _
  have hQB : Blk w1 w.heap.size 42 #[.slice q.tA q.tn q.tc, .int .i64 q.frm, .int .i64 q.upto, .int .i64 q.every, .slice q.bA q.bn q.bc, .int .i64 q.f.op, .string q.f.dim, .string q.f.val, .slice q.f.A q.f.n q.f.c, .slice q.hA q.hn q.hc, .int .i64 q.order, .int .i64 q.limit] := by
    rw [hw1]; exact Blk.new w 42 #[.slice q.tA q.tn q.tc, .int .i64 q.frm, .int .i64 q.upto, .int .i64 q.every, .slice q.bA q.bn q.bc, .int .i64 q.f.op, .string q.f.dim, .string q.f.val, .slice q.f.A q.f.n q.f.c, .slice q.hA q.hn q.hc, .int .i64 q.order, .int .i64 q.limit]
  obtain ⟨Q, hQe⟩ : ∃ Q, Q = w.heap.size := ⟨_, rfl⟩
  rw [← hQe] at hQB
  have HB1 := Lib.hid hb1
  have HQB := Lib.hid hQB
  have HQ := Lib.hid hq
  have HW1 := Lib.hid hw1
  have HQE := Lib.hid hQe
  have HC0 := Lib.hid (fun W (hW : Below w1.heap.size w1 W) => show W.cell? ⟨Q, 0, none⟩ = some (.slice q.tA q.tn q.tc) from by rw [(hQB.below hW).cell 0]; rfl)
  have HC9 := Lib.hid (fun W (hW : Below w1.heap.size w1 W) => show W.cell? ⟨Q, 9, none⟩ = some (.slice q.hA q.hn q.hc) from by rw [(hQB.below hW).cell 9]; rfl)
  have c0 := HC0.out w1 (Below.refl _ _)
  have c4 : w1.cell? ⟨Q, 4, none⟩ = some (.slice q.bA q.bn q.bc) := by rw [hQB.cell 4]; rfl
  have c9 := HC9.out w1 (Below.refl _ _)
  have htn := hq.tmax
  have hhn := hq.hmax
  obtain ⟨oo, hoo⟩ : ∃ o, o = shapeR q := ⟨_, rfl⟩
  rw [← hoo]
  unfold shapeR at hoo
  have HOO := Lib.hid hoo
  clear hw1 hb1 hQB hq hQe hoo
  go_enter Try.func48, Try.ntmps48
  go_upto_region 1 with fail
  rw [← HW1.out, ← HQE.out]
  by_cases k0 : q.tn < 1
  · have HE := Lib.hid (show oo = false by rw [HOO.out, decide_eq_false (show ¬ 1 ≤ q.tn by omega)]; simp)
    have kz0 : (q.tn : Int) < 1 := by omega
    go_wp2_with fail
    go_ret
    exact ⟨by rw [HE.out]; rfl, HB1.out⟩
  have kz0 : ¬ (q.tn : Int) < 1 := by omega
  by_cases k1 : 8 < q.tn
  · have HE := Lib.hid (show oo = false by rw [HOO.out, decide_eq_false (show ¬ q.tn ≤ 8 by omega)]; simp)
    have kz1 : 8 < (q.tn : Int) := by omega
    go_wp2_with fail
    go_ret
    exact ⟨by rw [HE.out]; rfl, HB1.out⟩
  have kz1 : ¬ 8 < (q.tn : Int) := by omega
  by_cases k2 : 6 < q.bn
  · have HE := Lib.hid (show oo = false by rw [HOO.out, decide_eq_false (show ¬ q.bn ≤ 6 by omega)]; simp)
    have kz2 : 6 < (q.bn : Int) := by omega
    go_wp2_with fail
    go_ret
    exact ⟨by rw [HE.out]; rfl, HB1.out⟩
  have kz2 : ¬ 6 < (q.bn : Int) := by omega
  by_cases k3 : 8 < q.hn
  · have HE := Lib.hid (show oo = false by rw [HOO.out, decide_eq_false (show ¬ q.hn ≤ 8 by omega)]; simp)
    have kz3 : 8 < (q.hn : Int) := by omega
    go_wp2_with fail
    go_ret
    exact ⟨by rw [HE.out]; rfl, HB1.out⟩
  have kz3 : ¬ 8 < (q.hn : Int) := by omega
  have HOP := Lib.hid (show oo = (q.T.all tmOk && q.H.all hvOk && fltR q.f) by
    rw [HOO.out, decide_eq_true (show 1 ≤ q.tn by omega), decide_eq_true (show q.tn ≤ 8 by omega), decide_eq_true (show q.bn ≤ 6 by omega), decide_eq_true (show q.hn ≤ 8 by omega), Bool.true_and, Bool.true_and, Bool.true_and, Bool.true_and])
  clear HOO
  go_upto_region 4 with fail
  clear c0 c4 c9 kz0 kz1 kz2 kz3
  go_loopw [3, 4] (fun v3 v4 wr => ∃ k : Nat, k ≤ q.tn ∧ v3 = .int .i64 k ∧ Hid (∀ (j : Nat) (h : j < q.T.length), j < k → tmOk q.T[j] = true) ∧ Hid (Below w1.heap.size w1 wr)) (fun i _ _ => q.tn - (intOf i).toNat)
  case atStart => exact ⟨0, by omega, rfl, Lib.hid (fun j _ h => by omega), Lib.hid (Below.refl _ _)⟩
  case round =>
    obtain ⟨k, hk, rfl, HS, HB⟩ := hrel
    have c0 := HC0.out wr HB.out
    by_cases hlt : k < q.tn
    · have hkz0 : (0 : Int) ≤ (k : Int) := by omega
      have hkz1 : (k : Int) < (q.tn : Int) := by omega
      have hkz : k < q.T.length := by have := HQ.out.tlen; omega
      obtain ⟨b, off, hAe, q0, q1⟩ := term_cells (HQ.out.trow.keep (Nat.le_refl _) (bthen HB1.out HB.out)) hkz
      obtain ⟨x, hx⟩ : ∃ x, x = q.T[k]'hkz := ⟨_, rfl⟩
      rw [← hx] at q0 q1
      rw [hAe] at c0
      have HC := Lib.hid (term_any x.1 x.2 wr)
      obtain ⟨r, hr⟩ : ∃ r, r = termB x.1 (decide (x.2 = ⟨#[]⟩)) := ⟨_, rfl⟩
      rw [← hr] at HC
      have HR := Lib.hid (show r = tmOk (q.T[k]'hkz) by rw [hr, ← hx]; rfl)
      clear hlt hx hr hAe
      cases r with
      | false =>
        have HE := Lib.hid (show oo = false by rw [HOP.out, all_take_false hkz HR.out.symm]; rfl)
        go_wp2_with (go_at_call 69; refine HC.out.mono ?_; rintro e w2 ⟨rfl, hb⟩; have HB2 := Lib.hid (bthen HB.out hb); clear hb)
        go_ret
        exact ⟨by rw [HE.out]; rfl, bthen HB1.out HB2.out⟩
      | true =>
        have HS2 := Lib.hid (show ∀ (j : Nat) (h : j < q.T.length), j < k + 1 → tmOk q.T[j] = true from fun j h hj => by
          rcases Nat.lt_or_ge j k with e | e
          · exact HS.out j h e
          · obtain rfl : j = k := by omega
            exact HR.out.symm)
        go_wp2_with (go_at_call 69; refine HC.out.mono ?_; rintro e w2 ⟨rfl, hb⟩; have HB2 := Lib.hid (bthen HB.out hb); clear hb)
        go_roundw
        case rel => exact ⟨k + 1, by omega, by go_num, HS2, HB2⟩
        case measure => simp [intOf]; omega
    · obtain rfl : k = q.tn := by omega
      have hkz1 : ¬ (q.tn : Int) < (q.tn : Int) := by omega
      have HTA := Lib.hid (show oo = (q.H.all hvOk && fltR q.f) by
        rw [HOP.out, all_of (fun j h => HS.out j h (by have := HQ.out.tlen; omega)), Bool.true_and])
      obtain ⟨wo, rfl⟩ : ∃ wo : World, wo = wr := ⟨_, rfl⟩
      clear hlt HS
      go_upto_region 10 with fail
      clear c0
      go_loopw [5, 7] (fun v5 v7 wr => ∃ k : Nat, k ≤ q.hn ∧ v5 = .int .i64 k ∧ Hid (∀ (j : Nat) (h : j < q.H.length), j < k → hvOk q.H[j] = true) ∧ Hid (Below w1.heap.size w1 wr)) (fun i _ _ => q.hn - (intOf i).toNat)
      case atStart => exact ⟨0, by omega, rfl, Lib.hid (fun j _ h => by omega), HB⟩
      case round =>
        clear HB
        obtain ⟨k, hk, rfl, HS, HB⟩ := hrel
        have c9 := HC9.out wr HB.out
        by_cases hlt : k < q.hn
        · have hkz0 : (0 : Int) ≤ (k : Int) := by omega
          have hkz1 : (k : Int) < (q.hn : Int) := by omega
          have hkz : k < q.H.length := by have := HQ.out.hlen; omega
          obtain ⟨b, off, hAe, q0, q1, q2, q3⟩ := having_cells (HQ.out.hrow.keep (Nat.le_refl _) (bthen HB1.out HB.out)) hkz
          obtain ⟨x, hx⟩ : ∃ x, x = q.H[k]'hkz := ⟨_, rfl⟩
          rw [← hx] at q0 q1 q2 q3
          rw [hAe] at c9
          have HXE := Lib.hid (show hvOk (q.H[k]'hkz) = hvOk x by rw [hx])
          clear hlt hx hAe
          obtain ⟨fn, s, sg, vl⟩ := x
          simp only at q0 q1 q2 q3
          obtain ⟨wb, hwb⟩ : ∃ wb, wb = wr.alloc (.cells #[.int .i64 fn, .string s, .int .i64 sg, .int .i64 vl] 108) := ⟨_, rfl⟩
          have hbb : Below wr.heap.size wr wb := by rw [hwb]; exact bpush (Below.refl _ _) _
          have hbk : Blk wb wr.heap.size 108 #[.int .i64 fn, .string s, .int .i64 sg, .int .i64 vl] := by rw [hwb]; exact Blk.new _ _ _
          have HBb := Lib.hid (bthen HB.out hbb)
          have HWB := Lib.hid hwb
          have HBK := Lib.hid hbk
          have HC := Lib.hid (term_any fn s wb)
          obtain ⟨r, hr⟩ : ∃ r, r = termB fn (decide (s = ⟨#[]⟩)) := ⟨_, rfl⟩
          rw [← hr] at HC
          have HR := Lib.hid (show hvOk (q.H[k]'hkz) = (r && decide (-1 ≤ sg) && decide (sg ≤ 1) && decide (-4611686018427387904 ≤ vl) && decide (vl ≤ 4611686018427387904)) by rw [HXE.out, hr]; rfl)
          clear hr HXE hwb hbb
          go_upto_region 13 with fail
          rw [← HWB.out]
          clear q0 q1 q2 q3 c9
          have q0 : wb.cell? ⟨wr.heap.size, 0, none⟩ = some (.int .i64 fn) := by rw [hbk.cell 0]; rfl
          have q1 : wb.cell? ⟨wr.heap.size, 1, none⟩ = some (.string s) := by rw [hbk.cell 1]; rfl
          clear hbk
          go_upto_region 14 with (go_at_call 69; refine HC.out.mono ?_; rintro e w2 ⟨rfl, hb⟩; have HB2 := Lib.hid (bthen HBb.out hb); have hk2 := HBK.out.below hb; have q2 : w2.cell? ⟨wr.heap.size, 2, none⟩ = some (.int .i64 sg) := (by rw [hk2.cell 2]; rfl); have q3 : w2.cell? ⟨wr.heap.size, 3, none⟩ = some (.int .i64 vl) := (by rw [hk2.cell 3]; rfl); clear hb hk2)
          clear q0 q1
          cases r with
          | false =>
            have HE := Lib.hid (show oo = false by rw [HTA.out, all_take_false hkz (by rw [HR.out]; rfl)]; rfl)
            go_wp2_with fail
            go_ret
            exact ⟨by rw [HE.out]; rfl, bthen HB1.out HB2.out⟩
          | true =>
          by_cases k0 : sg < -1
          · have HE := Lib.hid (show oo = false by rw [HTA.out, all_take_false hkz (by rw [HR.out, decide_eq_false (show ¬ -1 ≤ sg by omega)]; simp)]; rfl)
            have k0n : ¬ -1 ≤ sg := by omega
            go_wp2_with fail
            go_ret
            exact ⟨by rw [HE.out]; rfl, bthen HB1.out HB2.out⟩
          have k0n : -1 ≤ sg := by omega
          by_cases k1 : 1 < sg
          · have HE := Lib.hid (show oo = false by rw [HTA.out, all_take_false hkz (by rw [HR.out, decide_eq_false (show ¬ sg ≤ 1 by omega)]; simp)]; rfl)
            have k1n : ¬ sg ≤ 1 := by omega
            go_wp2_with fail
            go_ret
            exact ⟨by rw [HE.out]; rfl, bthen HB1.out HB2.out⟩
          have k1n : sg ≤ 1 := by omega
          by_cases k2 : vl < -4611686018427387904
          · have HE := Lib.hid (show oo = false by rw [HTA.out, all_take_false hkz (by rw [HR.out, decide_eq_false (show ¬ -4611686018427387904 ≤ vl by omega)]; simp)]; rfl)
            have k2n : ¬ -4611686018427387904 ≤ vl := by omega
            go_wp2_with fail
            go_ret
            exact ⟨by rw [HE.out]; rfl, bthen HB1.out HB2.out⟩
          have k2n : -4611686018427387904 ≤ vl := by omega
          by_cases k3 : 4611686018427387904 < vl
          · have HE := Lib.hid (show oo = false by rw [HTA.out, all_take_false hkz (by rw [HR.out, decide_eq_false (show ¬ vl ≤ 4611686018427387904 by omega)]; simp)]; rfl)
            have k3n : ¬ vl ≤ 4611686018427387904 := by omega
            go_wp2_with fail
            go_ret
            exact ⟨by rw [HE.out]; rfl, bthen HB1.out HB2.out⟩
          have k3n : vl ≤ 4611686018427387904 := by omega
          have HS2 := Lib.hid (show ∀ (j : Nat) (h : j < q.H.length), j < k + 1 → hvOk q.H[j] = true from fun j h hj => by
            rcases Nat.lt_or_ge j k with e | e
            · exact HS.out j h e
            · obtain rfl : j = k := by omega
              rw [HR.out, decide_eq_true k0n, decide_eq_true k1n, decide_eq_true k2n, decide_eq_true k3n]; rfl)
          go_wp2_with fail
          go_roundw
          case rel => exact ⟨k + 1, by omega, by go_num, HS2, HB2⟩
          case measure => simp [intOf]; omega
        · obtain rfl : k = q.hn := by omega
          have hkz1 : ¬ (q.hn : Int) < (q.hn : Int) := by omega
          have HTB := Lib.hid (show oo = fltR q.f by
            rw [HTA.out, all_of (fun j h => HS.out j h (by have := HQ.out.hlen; omega)), Bool.true_and])
          have hqb := HQB.out.below HB.out
          have c5 : wr.cell? ⟨Q, 5, none⟩ = some (.int .i64 q.f.op) := by rw [hqb.cell 5]; rfl
          have c6 : wr.cell? ⟨Q, 6, none⟩ = some (.string q.f.dim) := by rw [hqb.cell 6]; rfl
          have c7 : wr.cell? ⟨Q, 7, none⟩ = some (.string q.f.val) := by rw [hqb.cell 7]; rfl
          have c8 : wr.cell? ⟨Q, 8, none⟩ = some (.slice q.f.A q.f.n q.f.c) := by rw [hqb.cell 8]; rfl
          have HFM := Lib.hid (form_any q.f wr (FIn.keep q.f HQ.out.f (Nat.le_refl _) (bthen HB1.out HB.out)) 30 (by omega))
          clear hlt hqb
          unfold fltR at HTB
          by_cases o0 : q.f.op = 0
          · have HTC := Lib.hid (show oo = (decide (q.f.n = 0) && decide (q.f.dim = ⟨#[]⟩) && decide (q.f.val = ⟨#[]⟩)) by rw [HTB.out, if_pos o0])
            rw [o0] at c5
            obtain ⟨fn, hfn⟩ : ∃ x, x = q.f.n := ⟨_, rfl⟩
            obtain ⟨x1, hx1⟩ : ∃ x, x = q.f.dim := ⟨_, rfl⟩
            obtain ⟨x2, hx2⟩ : ∃ x, x = q.f.val := ⟨_, rfl⟩
            rw [← hfn] at c8 HTC
            rw [← hx1] at c6 HTC
            rw [← hx2] at c7 HTC
            clear hfn hx1 hx2 o0
            by_cases m : fn = 0
            · have m1 : (fn : Int) = 0 := by omega
              by_cases z1 : x1 = ⟨#[]⟩
              · by_cases z2 : x2 = ⟨#[]⟩
                · have HE := Lib.hid (show oo = true by rw [HTC.out, decide_eq_true m, decide_eq_true z1, decide_eq_true z2]; rfl)
                  subst z1 z2
                  go_wp2_with fail
                  go_ret
                  exact ⟨by rw [HE.out]; rfl, bthen HB1.out HB.out⟩
                · have HE := Lib.hid (show oo = false by rw [HTC.out, decide_eq_false z2]; simp)
                  have y2 : ¬ x2.toList = [] := by
                    have := str_ne_lit (l := []) z2
                    simpa using this
                  have v2 : (x2.toList == []) = false := str_ne_lit (l := []) z2
                  subst z1
                  go_wp2_with fail
                  go_ret
                  exact ⟨by rw [HE.out]; simp [y2, v2]; try rfl, bthen HB1.out HB.out⟩
              · have HE := Lib.hid (show oo = false by rw [HTC.out, decide_eq_false z1]; simp)
                have y1 : ¬ x1.toList = [] := by
                  have := str_ne_lit (l := []) z1
                  simpa using this
                have v1 : (x1.toList == []) = false := str_ne_lit (l := []) z1
                go_wp2_with fail
                go_ret
                exact ⟨by rw [HE.out]; simp [y1, v1]; try rfl, bthen HB1.out HB.out⟩
            · have HE := Lib.hid (show oo = false by rw [HTC.out, decide_eq_false m]; simp)
              have m1 : ¬ (fn : Int) = 0 := by omega
              go_wp2_with fail
              go_ret
              exact ⟨by rw [HE.out]; rfl, bthen HB1.out HB.out⟩
          · have HTC := Lib.hid (show oo = q.f.form 30 by rw [HTB.out, if_neg o0])
            have o0b : (q.f.op == 0) = false := by simp [o0]
            obtain ⟨r, hr⟩ : ∃ r, r = q.f.form 30 := ⟨_, rfl⟩
            rw [← hr] at HFM HTC
            clear hr
            go_wp2_with (go_at_call 70; refine HFM.out.mono ?_; rintro e w3 ⟨rfl, hb⟩; have HB3 := Lib.hid (bthen HB.out hb); clear hb)
            go_ret
            exact ⟨by rw [HTC.out]; rfl, bthen HB1.out HB3.out⟩
end Go.Proofs.Ytgaallkdfcckpaa
