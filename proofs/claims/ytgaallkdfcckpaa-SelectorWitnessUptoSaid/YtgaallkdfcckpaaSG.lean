/- candidates (34). -/
import Derived.Test.YtgaallkdfcckpaaSF
import Derived.BigQuiet
namespace Go.Proofs.Ytgaallkdfcckpaa
open Go.RowKit Go.Maps Go.Lib Go.Shelf
set_option linter.unusedSimpArgs false
set_option linter.unusedVariables false
def candAt (F : List SZ) (x : XZ) (i : Nat) : Option XZ := (rowsS F x.tier (i : Int)).map fun n => ⟨x.frm, x.upto, x.tier, (i : Int), n⟩
def candS (F : List SZ) (m : Nat) (x : XZ) : List XZ := ⟨x.frm, x.upto, x.tier, x.proj, (rowsS F x.tier (-1)).getD 0⟩ :: (List.range m).filterMap (candAt F x)
theorem candS_succ (F : List SZ) (m : Nat) (x : XZ) : candS F (m + 1) x = candS F m x ++ (candAt F x m).toList := by
  unfold candS
  rw [List.range_succ, List.filterMap_append]
  cases h : candAt F x m <;> simp [h]
theorem candS_len (F : List SZ) (m : Nat) (x : XZ) : (candS F m x).length ≤ m + 1 := by
  unfold candS
  have := List.length_filterMap_le (candAt F x) (List.range m)
  simp at this ⊢
  omega
theorem Blk.far {W : World} {g b : Nat} {t : TypeId} {cs : Array Value} (h : Blk W g t cs) (hne : g ≠ b) {i : Nat} (v : Value) : Blk (W.setCell ⟨b, i, none⟩ v) g t cs := (Below.heap_setCell W ⟨b, i, none⟩ v g hne).trans h
structure CdSt (w : World) (p : PZ) (x : XZ) (fA : Option Addr) (fn fc P X G n1 : Nat) (pj rw : Value) (W : World) : Prop where
  bel : Below w.heap.size w W
  kp : Blk W P 28 #[.slice p.tA p.tn p.tc, .slice p.jA p.jn p.jc, .int .i64 p.hor]
  kg : Blk W G 32 #[.slice fA fn fc]
  kx : Blk W X 49 #[.int .i64 x.frm, .int .i64 x.upto, .int .i64 x.tier, pj, rw]
  sz : n1 ≤ W.heap.size
section
variable {w W W' : World} {p : PZ} {x : XZ} {fA : Option Addr} {fn fc P X G n1 : Nat} {pj rw : Value}
theorem CdSt.below (h : CdSt w p x fA fn fc P X G n1 pj rw W) (hb : Below W.heap.size W W') : CdSt w p x fA fn fc P X G n1 pj rw W' :=
  ⟨bthen h.bel hb, h.kp.below hb, h.kg.below hb, h.kx.below hb, Nat.le_trans h.sz hb.size⟩
theorem CdSt.store (h : CdSt w p x fA fn fc P X G n1 pj rw W) (hX : w.heap.size ≤ X) (hP : P ≠ X) (hG : G ≠ X) (a b : Value) : CdSt w p x fA fn fc P X G n1 a b ((W.setCell ⟨X, 3, none⟩ a).setCell ⟨X, 4, none⟩ b) := by
  refine ⟨bset (bset h.bel hX _) hX _, ?_, ?_, ?_, by simpa [World.setCell] using h.sz⟩
  · exact (h.kp.far hP _).far hP _
  · exact (h.kg.far hG _).far hG _
  · have := (h.kx.set_ 3 a).set_ 4 b
    simpa using this
theorem CdSt.store4 (h : CdSt w p x fA fn fc P X G n1 pj rw W) (hX : w.heap.size ≤ X) (hP : P ≠ X) (hG : G ≠ X) (b : Value) : CdSt w p x fA fn fc P X G n1 pj b (W.setCell ⟨X, 4, none⟩ b) := by
  refine ⟨bset h.bel hX _, h.kp.far hP _, h.kg.far hG _, ?_, by simpa [World.setCell] using h.sz⟩
  have := h.kx.set_ 4 b
  simpa using this
theorem own_geX {B : Nat} {v : Value} {n : Nat} {xs : List Value} (h : W.ownsRow B 49 5 v n xs) {g : Nat} (hg : g < B) : v.ownBlock ≠ some g := by
  intro e
  rcases h.2 with ⟨rfl, _⟩ | ⟨g', cap, cur, rfl, h2, _, _⟩
  · simp [Value.ownBlock] at e
  · simp [Value.ownBlock] at e
    omega
theorem CdSt.grown {v : Value} {n : Nat} {xs : List Value} (h : CdSt w p x fA fn fc P X G n1 pj rw W) (ho : W.ownsRow n1 49 5 v n xs) (hg : W.grownBy W' v.ownBlock) (hw : w.heap.size ≤ n1) (hP : P < n1) (hX : X < n1) (hG : G < n1) : CdSt w p x fA fn fc P X G n1 pj rw W' := by
  have hb := (grown_belowX (own_lowerX ho hw) hg (Nat.le_trans hw h.sz))
  refine ⟨h.bel.trans hb, blk_grown h.kp hg (own_geX ho hP), blk_grown h.kg hg (own_geX ho hG), blk_grown h.kx hg (own_geX ho hX), Nat.le_trans h.sz hg.size⟩
end
/-- One plan, as a list of its own. -/
theorem own_oneX (w : World) (x : XZ) (B : Nat) (hB : B ≤ w.heap.size) : (w.alloc (.cells (encX x).toArray 49)).ownsRow B 49 5 (.slice (some ⟨w.heap.size, 0, none⟩) 1 1) 1 (cellsX [x]) := by
  refine ⟨rfl, .inr ⟨w.heap.size, 1, (encX x).toArray, rfl, hB, heap_alloc_new w _, Nat.le_refl _, ?_, ?_, ?_⟩⟩
  all_goals first | rfl | (unfold maxLen; omega) | trace_state
set_option maxRecDepth 100000 in
set_option maxHeartbeats 16000000 in
theorem cand_any (p : PZ) (x : XZ) (fA : Option Addr) (fn fc : Nat) (F : List SZ) (w : World) (hF : Row w fA (cellsS F)) (hn : fn = F.length) (hm : fn ≤ 9223372036854775807) (hj : p.jn ≤ 10000) :
    Calls Try.prog 34 #[.agg #[.slice p.tA p.tn p.tc, .slice p.jA p.jn p.jc, .int .i64 p.hor], .agg #[.int .i64 x.frm, .int .i64 x.upto, .int .i64 x.tier, .int .i64 x.proj, .int .i64 x.rows], .slice fA fn fc] w (PlansP w (candS F p.jn x)) := by
  obtain ⟨wa, hwa⟩ : ∃ wa, wa = w.alloc (.cells #[.slice p.tA p.tn p.tc, .slice p.jA p.jn p.jc, .int .i64 p.hor] 28) := ⟨_, rfl⟩
  obtain ⟨wb, hwb⟩ : ∃ wb, wb = wa.alloc (.cells #[.int .i64 x.frm, .int .i64 x.upto, .int .i64 x.tier, .int .i64 x.proj, .int .i64 x.rows] 49) := ⟨_, rfl⟩
  obtain ⟨w1, hw1⟩ : ∃ w1, w1 = wb.alloc (.cells #[.slice fA fn fc] 32) := ⟨_, rfl⟩
  have ba : Below w.heap.size w wa := by rw [hwa]; exact bpush (Below.refl _ _) _
  have bb : Below wa.heap.size wa wb := by rw [hwb]; exact bpush (Below.refl _ _) _
  have bc : Below wb.heap.size wb w1 := by rw [hw1]; exact bpush (Below.refl _ _) _
  have kP : Blk wa w.heap.size 28 #[.slice p.tA p.tn p.tc, .slice p.jA p.jn p.jc, .int .i64 p.hor] := by rw [hwa]; exact Blk.new _ _ _
  have kX : Blk wb wa.heap.size 49 #[.int .i64 x.frm, .int .i64 x.upto, .int .i64 x.tier, .int .i64 x.proj, .int .i64 x.rows] := by rw [hwb]; exact Blk.new _ _ _
  have kG : Blk w1 wb.heap.size 32 #[.slice fA fn fc] := by rw [hw1]; exact Blk.new _ _ _
  have sza : wa.heap.size = w.heap.size + 1 := by rw [hwa]; simp
  have szb : wb.heap.size = w.heap.size + 2 := by rw [hwb]; simp [sza]
  have szc : w1.heap.size = w.heap.size + 3 := by rw [hw1]; simp [szb]
  rw [sza] at kX
  rw [szb] at kG
  have kP := kP.below (bthen bb bc)
  have kX := kX.below bc
  obtain ⟨P, hPe⟩ : ∃ P, P = w.heap.size := ⟨_, rfl⟩
  obtain ⟨X, hXe⟩ : ∃ X, X = w.heap.size + 1 := ⟨_, rfl⟩
  obtain ⟨G, hGe⟩ : ∃ G, G = w.heap.size + 2 := ⟨_, rfl⟩
  obtain ⟨n1, hn1⟩ : ∃ n, n = w1.heap.size := ⟨_, rfl⟩
  rw [← hPe] at kP
  rw [← hXe] at kX
  rw [← hGe] at kG
  have HST := Lib.hid (show CdSt w p x fA fn fc P X G n1 (.int .i64 x.proj) (.int .i64 x.rows) w1 from ⟨bthen (bthen ba bb) bc, kP, kG, kX, Nat.le_of_eq hn1⟩)
  have HPX := Lib.hid (show P ≠ X ∧ G ≠ X ∧ w.heap.size ≤ X ∧ P < n1 ∧ X < n1 ∧ G < n1 ∧ w.heap.size ≤ n1 by omega)
  have HW1 := Lib.hid (show w1 = ((w.alloc (.cells #[.slice p.tA p.tn p.tc, .slice p.jA p.jn p.jc, .int .i64 p.hor] 28)).alloc (.cells #[.int .i64 x.frm, .int .i64 x.upto, .int .i64 x.tier, .int .i64 x.proj, .int .i64 x.rows] 49)).alloc (.cells #[.slice fA fn fc] 32) by rw [hw1, hwb, hwa])
  have HE3 := Lib.hid (And.intro hPe (And.intro hXe hGe))
  have HF := Lib.hid hF
  have HN := Lib.hid hn
  have HRO := Lib.hid (fun (j : Int) (W : World) (pj rw : Value) (h : CdSt w p x fA fn fc P X G n1 pj rw W) => rows60 G X fA fn fc F x.tier j W (HF.out.keep (Nat.le_refl _) h.bel) HN.out hm (by rw [h.kg.cell 0]; rfl) (by rw [h.kx.cell 2]; rfl))
  obtain ⟨o0, ho0⟩ : ∃ o, o = (rowsS F x.tier (-1)).getD 0 := ⟨_, rfl⟩
  obtain ⟨b0, hb0⟩ : ∃ o, o = (rowsS F x.tier (-1)).isSome := ⟨_, rfl⟩
  have HR0 := Lib.hid (HRO.out (-1) w1 _ _ HST.out)
  rw [← ho0, ← hb0] at HR0
  have HC0 := Lib.hid (show candS F 0 x = [⟨x.frm, x.upto, x.tier, x.proj, o0⟩] by rw [ho0]; rfl)
  obtain ⟨jn, hjn⟩ : ∃ j, j = p.jn := ⟨_, rfl⟩
  rw [← hjn] at hj
  have HJN := Lib.hid hjn
  clear hwa hwb hw1 ba bb bc kP kX kG sza szb szc hPe hXe hGe hn1 hF hn ho0 hb0 hjn
  go_enter Try.func34, Try.ntmps34
  go_upto_region 1 with fail
  rw [← HW1.out, ← HE3.out.2.2, ← HE3.out.2.1, ← HE3.out.1]
  rw [← HJN.out]
  have fx4 := HST.out.kx.frozen 4
  have x4 := HST.out.kx.cell 4
  simp at x4
  go_upto_region 3 with (go_at_call 60; refine HR0.out.mono ?_; rintro e w2 ⟨rfl, hb⟩; have HS2 := Lib.hid (HST.out.below hb); have fy4 := HS2.out.kx.frozen 4; have y4 := HS2.out.kx.cell 4; simp at y4; clear hb)
  obtain ⟨w3, hw3⟩ : ∃ w3, w3 = w2.setCell ⟨X, 4, none⟩ (.int .i64 o0) := ⟨_, rfl⟩
  have HS3 := Lib.hid (show CdSt w p x fA fn fc P X G n1 (.int .i64 x.proj) (.int .i64 o0) w3 by rw [hw3]; exact HS2.out.store4 HPX.out.2.2.1 HPX.out.1 HPX.out.2.1 _)
  rw [← hw3]
  clear hw3 fx4 x4 fy4 y4
  have a0 := HS3.out.kx.cell 0
  have a1 := HS3.out.kx.cell 1
  have a2 := HS3.out.kx.cell 2
  have a3 := HS3.out.kx.cell 3
  have a4 := HS3.out.kx.cell 4
  simp at a0 a1 a2 a3 a4
  obtain ⟨w4, hw4⟩ : ∃ w4, w4 = w3.alloc (.cells #[.int .i64 x.frm, .int .i64 x.upto, .int .i64 x.tier, .int .i64 x.proj, .int .i64 o0] 49) := ⟨_, rfl⟩
  have HS4 := Lib.hid (HS3.out.below (show Below w3.heap.size w3 w4 by rw [hw4]; exact bpush (Below.refl _ _) _))
  have HO4 := Lib.hid (show w4.ownsRow n1 49 5 (.slice (some ⟨w3.heap.size, 0, none⟩) 1 1) (candS F 0 x).length (cellsX (candS F 0 x)) by
    rw [hw4, HC0.out]
    exact own_oneX w3 ⟨x.frm, x.upto, x.tier, x.proj, o0⟩ n1 HS3.out.sz)
  have HW4 := Lib.hid hw4
  clear hw4
  go_upto_region 4 with fail
  rw [← HW4.out]
  clear a0 a1 a2 a3 a4
  have p1 := HS4.out.kp.cell 1
  simp at p1
  rw [← HJN.out] at p1
  go_upto_region 5 with fail
  go_loopw [8, 24] (fun v8 vi wr => ∃ (k : Nat) (v pj rw : Value), k ≤ jn ∧ vi = .int .i64 k ∧ v = v8 ∧ Hid (wr.ownsRow n1 49 5 v (candS F k x).length (cellsX (candS F k x))) ∧ Hid (CdSt w p x fA fn fc P X G n1 pj rw wr)) (fun _ vi _ => jn - (intOf vi).toNat)
  case atStart => exact ⟨0, _, _, _, by omega, rfl, rfl, HO4, HS4⟩
  case round =>
    obtain ⟨k, vv, pj, rw, hk, rfl, rfl, HO, HS⟩ := hrel
    obtain ⟨wo, rfl⟩ : ∃ wo : World, wo = wr := ⟨_, rfl⟩
    clear p1
    by_cases hlt : k < jn
    case neg =>
      obtain rfl : k = jn := by omega
      have hge : ¬ (k : Int) < (k : Int) := by omega
      clear hlt
      go_wp2_with fail
      go_ret
      obtain ⟨A, c, rfl, -⟩ := own_sliceX HO.out
      exact ⟨_, rfl, by rw [← HJN.out]; exact own_lowerX HO.out HPX.out.2.2.2.2.2.2, HS.out.bel⟩
    case pos =>
    have hki : (k : Int) < (jn : Int) := by omega
    have hk0 : (0 : Int) ≤ (k : Int) := by omega
    have HCS := Lib.hid (candS_succ F k x)
    have HCL := Lib.hid (show (candS F k x).length ≤ 100000 by have := candS_len F k x; omega)
    obtain ⟨L, hL⟩ : ∃ L, L = candS F k x := ⟨_, rfl⟩
    rw [← hL] at HO HCS HCL
    have HRK := Lib.hid (HRO.out (k : Int) wo _ _ HS.out)
    obtain ⟨o, ho⟩ : ∃ o, o = rowsS F x.tier (k : Int) := ⟨_, rfl⟩
    rw [← ho] at HRK
    have HCA := Lib.hid (show candAt F x k = o.map fun n => ⟨x.frm, x.upto, x.tier, (k : Int), n⟩ by rw [ho]; rfl)
    clear hL ho hlt
    cases o with
    | none =>
      have HRK := Lib.hid (show Calls Try.prog 60 #[.int .i64 (k : Int), .pointer (some ⟨G, 0, none⟩), .pointer (some ⟨X, 0, none⟩)] wo fun e w' => e = .returned (.tuple #[.int .i64 0, .bool false]) ∧ Below wo.heap.size wo w' from HRK.out)
      have HCE := Lib.hid (show candS F (k + 1) x = L by rw [HCS.out, HCA.out]; simp)
      go_wp2_with (go_at_call 60; refine HRK.out.mono ?_; rintro e w5 ⟨rfl, hb⟩; have HS5 := Lib.hid (HS.out.below hb); have HO5 := Lib.hid (own_below HO.out hb); clear hb)
      go_roundw
      case rel => exact ⟨k + 1, vv, pj, rw, by omega, by go_num, rfl, Lib.hid (by rw [HCE.out]; exact HO5.out), HS5⟩
      case measure => simp [intOf]; omega
    | some nn =>
      have HRK := Lib.hid (show Calls Try.prog 60 #[.int .i64 (k : Int), .pointer (some ⟨G, 0, none⟩), .pointer (some ⟨X, 0, none⟩)] wo fun e w' => e = .returned (.tuple #[.int .i64 nn, .bool true]) ∧ Below wo.heap.size wo w' from HRK.out)
      have HCE := Lib.hid (show candS F (k + 1) x = L ++ [⟨x.frm, x.upto, x.tier, (k : Int), nn⟩] by rw [HCS.out, HCA.out]; simp)
      go_upto_region 9 with (go_at_call 60; refine HRK.out.mono ?_; rintro e w5 ⟨rfl, hb⟩; have HS5 := Lib.hid (HS.out.below hb); have HO5 := Lib.hid (own_below HO.out hb); clear hb)
      have fy3 := HS5.out.kx.frozen 3
      have y3 := HS5.out.kx.cell 3
      have fy4 := HS5.out.kx.frozen 4
      have y4 := HS5.out.kx.cell 4
      simp at y3 y4
      go_upto_region 10 with fail
      obtain ⟨w6, hw6⟩ : ∃ w6, w6 = (w5.setCell ⟨X, 3, none⟩ (.int .i64 (k : Int))).setCell ⟨X, 4, none⟩ (.int .i64 nn) := ⟨_, rfl⟩
      have HS6 := Lib.hid (show CdSt w p x fA fn fc P X G n1 (.int .i64 (k : Int)) (.int .i64 nn) w6 by rw [hw6]; exact HS5.out.store HPX.out.2.2.1 HPX.out.1 HPX.out.2.1 _ _)
      have HO6 := Lib.hid (show w6.ownsRow n1 49 5 vv L.length (cellsX L) by
        rw [hw6]
        exact own_farX (cs := #[]) (own_farX (cs := #[]) HO5.out (own_geX HO5.out HPX.out.2.2.2.2.1) _) (own_geX HO5.out HPX.out.2.2.2.2.1) _)
      rw [← hw6]
      clear hw6 fy3 y3 fy4 y4
      have a0 := HS6.out.kx.cell 0
      have a1 := HS6.out.kx.cell 1
      have a2 := HS6.out.kx.cell 2
      have a3 := HS6.out.kx.cell 3
      have a4 := HS6.out.kx.cell 4
      simp at a0 a1 a2 a3 a4
      obtain ⟨w7, hw7⟩ : ∃ w7, w7 = w6.alloc (.cells #[.int .i64 x.frm, .int .i64 x.upto, .int .i64 x.tier, .int .i64 (k : Int), .int .i64 nn] 49) := ⟨_, rfl⟩
      have hb7 : Below w6.heap.size w6 w7 := by rw [hw7]; exact bpush (Below.refl _ _) _
      have HS7 := Lib.hid (HS6.out.below hb7)
      have HO7 := Lib.hid (own_below HO6.out hb7)
      have HRB := Lib.hid (show Row w7 (some ⟨w6.heap.size, 0, none⟩) (encX ⟨x.frm, x.upto, x.tier, (k : Int), nn⟩) by rw [hw7]; exact Row.made (t := 49) rfl rfl)
      have HZB := Lib.hid HS7.out.sz
      have HW7 := Lib.hid hw7
      clear hw7 hb7
      go_wp2_with (at_builtin; rw [← HW7.out]; refine app_x rfl _ _ rfl n1 vv L rfl HO7.out w6.heap.size 1 ⟨x.frm, x.upto, x.tier, (k : Int), nn⟩ rfl HRB.out HCL.out HZB.out ?_; intro v3 w9 ho3 hg3; have HO3 := Lib.hid ho3; have HS9 := Lib.hid (HS7.out.grown HO7.out hg3 HPX.out.2.2.2.2.2.2 HPX.out.2.2.2.1 HPX.out.2.2.2.2.1 HPX.out.2.2.2.2.2.1); clear ho3 hg3)
      go_roundw
      case rel => exact ⟨k + 1, v3, _, _, by omega, by go_num, rfl, Lib.hid (by rw [HCE.out]; exact HO3.out), HS9⟩
      case measure => simp [intOf]; omega
end Go.Proofs.Ytgaallkdfcckpaa
