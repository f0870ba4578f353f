/- Stretches: the code's (11). -/
import Derived.Test.YtgaallkdfcckpaaSB
import Derived.BigQuiet
import Derived.Deep.RegionHeld3
import Derived.StillTailTactics
namespace Go.Proofs.Ytgaallkdfcckpaa
open Go.RowKit Go.Maps Go.Lib Go.Shelf
set_option linter.unusedSimpArgs false
set_option linter.unusedVariables false
theorem info49 : (Try.prog.info? 49).map (fun i => (i.zero, i.size, i.bytes)) = some (some (.agg #[.int .i64 0, .int .i64 0, .int .i64 0, .int .i64 0, .int .i64 0]), 5, 40) := by kernel_rfl
theorem own_sliceX {B : Nat} {w : World} {v : Value} {L : List XZ} (h : w.ownsRow B 49 5 v L.length (cellsX L)) : ∃ A c, v = .slice A L.length c ∧ Row w A (cellsX L) ∧ L.length ≤ c ∧ (A = none → c = 0) := by
  rcases h.2 with ⟨rfl, h0⟩ | ⟨g, cap, cur, rfl, hb, hc, h1, h2, h3, h4⟩
  · have hz0 : L = [] := List.length_eq_zero_iff.1 h0
    subst hz0
    exact ⟨none, 0, rfl, .inl rfl, Nat.le_refl _, fun _ => rfl⟩
  · refine ⟨some ⟨g, 0, none⟩, cap, rfl, .inr ⟨g, 0, rfl, fun i u hu => ?_⟩, h1, fun h => by cases h⟩
    rw [Nat.zero_add, Blk.cell hc i, ← hu, ← h4, List.getElem?_take, Array.getElem?_toList, if_pos]
    rcases Nat.lt_or_ge i (L.length * 5) with h | h
    · exact h
    · rw [List.getElem?_eq_none (by rw [cellsX_length]; omega)] at hu; cases hu
theorem grown_belowX {w w' : World} {B : Nat} {v : Value} {n : Nat} {xs : List Value} (hown : w.ownsRow B 49 5 v n xs) (hg : w.grownBy w' v.ownBlock) (h : B ≤ w.heap.size) : Below B w w' :=
  (Below.refl B w).grown hg h (fun k hk => by
    rcases hown.2 with ⟨rfl, _⟩ | ⟨g, cap, cur, rfl, hb, _⟩
    · simp [Value.ownBlock] at hk
    · simp [Value.ownBlock] at hk; omega)
/-- A plan is appended. -/
theorem app_x {ops : Array Oper} {rest : List Oper} {o : Oper} {a : Act} {Q : Exit → Act → World → Prop} {w : World} (hgd : o.guard = none) (s y : Operand)
    (ho : o.op = .call { callee := .builtin .append, args := #[s, y], argTypes := #[45, 45] })
    (base : Nat) (v : Value) (L : List XZ) (hs : a.eval s = v) (hown : w.ownsRow base 49 5 v L.length (cellsX L)) (g c : Nat) (x : XZ) (hx : a.eval y = .slice (some ⟨g, 0, none⟩) 1 c) (hr : Row w (some ⟨g, 0, none⟩) (encX x)) (hL : L.length ≤ 100000) (hb : base ≤ w.heap.size)
    (h : ∀ v' w', w'.ownsRow base 49 5 v' (L ++ [x]).length (cellsX (L ++ [x])) → w.grownBy w' v.ownBlock → wpList Try.prog ops Q rest (a.put o.dst v') w') : wpList Try.prog ops Q (o :: rest) a w := by
  obtain ⟨i0, hi0, hz0, hz1, hz2⟩ := info_parts info49
  refine wpList_append_own _ hgd s y 45 ho base 49 i0 (.agg #[.int .i64 0, .int .i64 0, .int .i64 0, .int .i64 0, .int .i64 0]) 5 40 Try.underlying45 hi0 hz0 hz1 hz2 rfl (by decide) v L.length (cellsX L) hs hown ⟨g, 0, none⟩ 1 c (encX x) hx rfl hr.at' ?_ (by unfold maxLen; omega) (by omega) hb (fun v' w' h1 h2 _ => h v' w' ?_ h2)
  · intro u hu
    simp [encX] at hu
    rcases hu with rfl | rfl | rfl | rfl | rfl <;> rfl
  · rw [cellsX_app, List.length_append]
    simpa [cellsX] using h1
/-- A tier's stretch; all that are not empty. -/
def strAt (E : List Int) (fr up : Int) (i : Nat) : XZ := ⟨max fr (E.getD i 0), if i = 0 then up else min up (E.getD (i - 1) 0), i, -1, 0⟩
def strS (E : List Int) (fr up : Int) (n : Nat) : List XZ := ((List.range n).map (strAt E fr up)).filter fun x => decide (x.frm < x.upto)
theorem strS_succ (E : List Int) (fr up : Int) (n : Nat) : strS E fr up (n + 1) = strS E fr up n ++ if (strAt E fr up n).frm < (strAt E fr up n).upto then [strAt E fr up n] else [] := by
  unfold strS
  rw [List.range_succ, List.map_append, List.filter_append]
  congr 1
  by_cases h : (strAt E fr up n).frm < (strAt E fr up n).upto <;> simp [h]
theorem strS_len (E : List Int) (fr up : Int) (n : Nat) : (strS E fr up n).length ≤ n := by
  unfold strS
  refine Nat.le_trans (List.length_filter_le _ _) ?_
  simp
theorem own_lowerX {w : World} {B B' : Nat} {v : Value} {n : Nat} {xs : List Value} (h : w.ownsRow B 49 5 v n xs) (hB : B' ≤ B) : w.ownsRow B' 49 5 v n xs := by
  refine ⟨h.1, ?_⟩
  rcases h.2 with h | ⟨g, cap, cur, h1, h2, h3⟩
  · exact .inl h
  · exact .inr ⟨g, cap, cur, h1, Nat.le_trans hB h2, h3⟩
theorem own_farX {w : World} {B : Nat} {v : Value} {n : Nat} {xs : List Value} (h : w.ownsRow B 49 5 v n xs) {g i : Nat} {cs : Array Value} (hg : v.ownBlock ≠ some g) (y : Value) : (w.setCell ⟨g, i, none⟩ y).ownsRow B 49 5 v n xs := by
  refine ⟨h.1, ?_⟩
  rcases h.2 with h | ⟨g', cap, cur, rfl, h2, h3, h4⟩
  · exact .inl h
  · refine .inr ⟨g', cap, cur, rfl, h2, ?_, h4⟩
    rw [Below.heap_setCell w ⟨g, i, none⟩ y g' (by intro e; apply hg; rw [e]; rfl)]
    exact h3
theorem own_ltX {w : World} {B : Nat} {v : Value} {n : Nat} {xs : List Value} (h : w.ownsRow B 49 5 v n xs) {g : Nat} (hg : w.heap.size ≤ g) : v.ownBlock ≠ some g := by
  intro e
  rcases h.2 with ⟨rfl, _⟩ | ⟨g', cap, cur, rfl, _, h3, _⟩
  · simp [Value.ownBlock] at e
  · simp [Value.ownBlock] at e
    have := lt_of_heap h3
    omega
def PlansP (w : World) (L : List XZ) (e : Ending) (w' : World) : Prop := ∃ v, e = .returned v ∧ w'.ownsRow w.heap.size 49 5 v L.length (cellsX L) ∧ Below w.heap.size w w'
theorem drew_block (w : World) (n : Nat) : Below w.heap.size w (w.drewN n) := below_drewN (Below.refl _ _) n
/-- A plan that lies in a block of its own, at the end of memory. -/
theorem five_stored (w : World) (a b c d e : Value) : ∃ w', w' = (((((w.alloc (.cells #[.int .i64 0, .int .i64 0, .int .i64 0, .int .i64 0, .int .i64 0] 49)).setCell ⟨w.heap.size, 0, none⟩ a).setCell ⟨w.heap.size, 1, none⟩ b).setCell ⟨w.heap.size, 2, none⟩ c).setCell ⟨w.heap.size, 3, none⟩ d).setCell ⟨w.heap.size, 4, none⟩ e ∧ Blk w' w.heap.size 49 #[a, b, c, d, e] ∧ Below w.heap.size w w' := by
  refine ⟨_, rfl, ?_, bset (bset (bset (bset (bset (bpush (Below.refl _ _) _) (Nat.le_refl _) _) (Nat.le_refl _) _) (Nat.le_refl _) _) (Nat.le_refl _) _) (Nat.le_refl _) _⟩
  have h := ((((Blk.new w 49 #[.int .i64 0, .int .i64 0, .int .i64 0, .int .i64 0, .int .i64 0]).set_ 0 a).set_ 1 b).set_ 2 c).set_ 3 d |>.set_ 4 e
  simpa using h
set_option maxRecDepth 100000 in
set_option maxHeartbeats 16000000 in
theorem str_any (p : PZ) (q : QZ) (eA : Option Addr) (en ec : Nat) (E : List Int) (w : World) (hE : Row w eA (E.map (Value.int .i64))) (hn : en = E.length) (ht : p.tn = en) (h20 : en ≤ 100000) :
    Calls Try.prog 11 #[.agg #[.slice p.tA p.tn p.tc, .slice p.jA p.jn p.jc, .int .i64 p.hor], .slice eA en ec, .agg #[.slice q.tA q.tn q.tc, .int .i64 q.frm, .int .i64 q.upto, .int .i64 q.every, .slice q.bA q.bn q.bc, .int .i64 q.f.op, .string q.f.dim, .string q.f.val, .slice q.f.A q.f.n q.f.c, .slice q.hA q.hn q.hc, .int .i64 q.order, .int .i64 q.limit]] w (PlansP w (strS E q.frm q.upto en)) := by
  obtain ⟨wa, hwa⟩ : ∃ wa, wa = w.alloc (.cells #[.slice p.tA p.tn p.tc, .slice p.jA p.jn p.jc, .int .i64 p.hor] 28) := ⟨_, rfl⟩
  obtain ⟨w1, hw1⟩ : ∃ w1, w1 = wa.alloc (.cells #[.slice q.tA q.tn q.tc, .int .i64 q.frm, .int .i64 q.upto, .int .i64 q.every, .slice q.bA q.bn q.bc, .int .i64 q.f.op, .string q.f.dim, .string q.f.val, .slice q.f.A q.f.n q.f.c, .slice q.hA q.hn q.hc, .int .i64 q.order, .int .i64 q.limit] 42) := ⟨_, rfl⟩
  have ba : Below w.heap.size w wa := by rw [hwa]; exact bpush (Below.refl _ _) _
  have bb : Below wa.heap.size wa w1 := by rw [hw1]; exact bpush (Below.refl _ _) _
  have kP : Blk wa w.heap.size 28 #[.slice p.tA p.tn p.tc, .slice p.jA p.jn p.jc, .int .i64 p.hor] := by rw [hwa]; exact Blk.new _ _ _
  have kQ : Blk w1 wa.heap.size 42 #[.slice q.tA q.tn q.tc, .int .i64 q.frm, .int .i64 q.upto, .int .i64 q.every, .slice q.bA q.bn q.bc, .int .i64 q.f.op, .string q.f.dim, .string q.f.val, .slice q.f.A q.f.n q.f.c, .slice q.hA q.hn q.hc, .int .i64 q.order, .int .i64 q.limit] := by rw [hw1]; exact Blk.new _ _ _
  have sza : wa.heap.size = w.heap.size + 1 := by rw [hwa]; simp
  rw [sza] at kQ
  have kP := kP.below bb
  have hb1 : Below w.heap.size w w1 := bthen ba bb
  have HB1 := Lib.hid hb1
  obtain ⟨P, hPe⟩ : ∃ P, P = w.heap.size := ⟨_, rfl⟩
  obtain ⟨Q, hQe⟩ : ∃ Q, Q = w.heap.size + 1 := ⟨_, rfl⟩
  rw [← hPe] at kP
  rw [← hQe] at kQ
  have HER := Lib.hid (hE.keep (Nat.le_refl _) hb1)
  obtain ⟨fr, hfr⟩ : ∃ y, y = q.frm := ⟨_, rfl⟩
  obtain ⟨up, hup⟩ : ∃ y, y = q.upto := ⟨_, rfl⟩
  obtain ⟨tn, htn⟩ : ∃ y, y = p.tn := ⟨_, rfl⟩
  have HCE := Lib.hid (fun W (hW : Below w1.heap.size w1 W) => show W.cell? ⟨P, 0, none⟩ = some (.slice p.tA tn p.tc) ∧ W.cell? ⟨Q, 1, none⟩ = some (.int .i64 fr) ∧ W.cell? ⟨Q, 2, none⟩ = some (.int .i64 up) from by
    rw [hfr, hup, htn]
    exact ⟨(p_cells (kP.below hW)).1, (q_cells (kQ.below hW)).2.1, (q_cells (kQ.below hW)).2.2.1⟩)
  have HW1 := Lib.hid (show w1 = (w.alloc (.cells #[.slice p.tA p.tn p.tc, .slice p.jA p.jn p.jc, .int .i64 p.hor] 28)).alloc (.cells #[.slice q.tA q.tn q.tc, .int .i64 q.frm, .int .i64 q.upto, .int .i64 q.every, .slice q.bA q.bn q.bc, .int .i64 q.f.op, .string q.f.dim, .string q.f.val, .slice q.f.A q.f.n q.f.c, .slice q.hA q.hn q.hc, .int .i64 q.order, .int .i64 q.limit] 42) by rw [hw1, hwa])
  have HE2 := Lib.hid (And.intro hPe hQe)
  have HN := Lib.hid hn
  have HPL := Lib.hid (Nat.le_refl w1.heap.size)
  rw [← htn] at ht
  obtain rfl := ht
  have HTN := Lib.hid htn
  have HFU := Lib.hid (And.intro hfr hup)
  have hnm : tn ≤ 9223372036854775807 := by omega
  have HPQ := Lib.hid (show Q < w1.heap.size from kQ.lt)
  obtain ⟨c0, c1, c2⟩ := HCE.out w1 (Below.refl _ _)
  clear hwa hw1 ba bb kP kQ sza hb1 hPe hQe hE hn htn hfr hup
  go_enter Try.func11, Try.ntmps11
  go_upto_region 1 with fail
  rw [← HW1.out, ← HE2.out.2, ← HE2.out.1]
  rw [← HTN.out, ← HFU.out.1, ← HFU.out.2]
  go_upto_region 3 with fail
  go_loopw [7, 16] (fun v7 vi wr => ∃ (k : Nat) (v : Value), k ≤ tn ∧ vi = .int .i64 k ∧ v = v7 ∧ Hid (wr.ownsRow w1.heap.size 49 5 v (strS E fr up k).length (cellsX (strS E fr up k))) ∧ Hid (Below w1.heap.size w1 wr)) (fun _ vi _ => tn - (intOf vi).toNat)
  case atStart => exact ⟨0, _, by omega, rfl, rfl, Lib.hid (World.ownsRow_nil _ _ _ _), Lib.hid (Below.refl _ _)⟩
  case round =>
    obtain ⟨k, vv, hk, rfl, rfl, HO, HB⟩ := hrel
    obtain ⟨wo, rfl⟩ : ∃ wo : World, wo = wr := ⟨_, rfl⟩
    obtain ⟨d0, d1, d2⟩ := HCE.out wo HB.out
    clear c0 c1 c2
    by_cases hlt : k < tn
    case neg =>
      obtain rfl : k = tn := by omega
      have hge : ¬ (k : Int) < (k : Int) := by omega
      clear hlt
      go_wp2_with fail
      go_ret
      obtain ⟨A, c, rfl, -⟩ := own_sliceX HO.out
      exact ⟨_, rfl, by rw [← HFU.out.1, ← HFU.out.2]; exact own_lowerX HO.out HB1.out.size, bthen HB1.out HB.out⟩
    case pos =>
    have hkz : k < E.length := by have := HN.out; omega
    have hki : (k : Int) < (tn : Int) := by omega
    have hk0 : (0 : Int) ≤ (k : Int) := by omega
    have hER := HER.out.keep (Nat.le_refl _) HB.out
    obtain ⟨eb, eo, hAe, q0⟩ := hER.cell hkz
    obtain ⟨e, he⟩ : ∃ e, e = E[k] := ⟨_, rfl⟩
    rw [← he] at q0
    obtain ⟨mx, hmx⟩ : ∃ m, max fr e = m := ⟨_, rfl⟩
    have HMX := Lib.hid (show (if fr < e then e else fr) = mx by rw [← hmx]; split <;> omega)
    have HSN := Lib.hid (strS_succ E fr up k)
    have hlen := strS_len E fr up k
    have HFM := Lib.hid (show (strAt E fr up k).frm = mx by
      show max fr (E.getD k 0) = mx
      rw [← hmx, he]; simp [hkz])
    have HTI := Lib.hid (show (strAt E fr up k).tier = (k : Int) ∧ (strAt E fr up k).proj = -1 ∧ (strAt E fr up k).rows = 0 from ⟨rfl, rfl, rfl⟩)
    obtain ⟨sx, hsx⟩ : ∃ s, s = strAt E fr up k := ⟨_, rfl⟩
    rw [← hsx] at HSN HFM HTI
    obtain ⟨U, hU⟩ : ∃ U, U = strS E fr up k := ⟨_, rfl⟩
    rw [← hU] at HSN HO hlen
    have HUL := Lib.hid (show U.length ≤ 100000 by omega)
    have HSX := Lib.hid hsx
    have hEbl : eb < wo.heap.size := lt_of_cell q0
    have hQbl : Q < wo.heap.size := Nat.lt_of_lt_of_le HPQ.out HB.out.size
    have HEB := Lib.hid hER
    subst hAe
    clear hmx he hsx hU hlen hlt hER
    go_upto_region 5 with fail
    go_region_held3 (fun w' => w'.cell? ⟨Q, 1, none⟩ = some (.int .i64 fr) ∧ w'.cell? ⟨Q, 2, none⟩ = some (.int .i64 up) ∧ w'.cell? ⟨eb, eo + k, none⟩ = some (.int .i64 e))
      (first | go_keep | exact ⟨d1, d2, q0⟩)
      (first | (fail))
    all_goals
      rw [HMX.out]
      obtain ⟨w5, hw5⟩ : ∃ w5, w5 = (wo.alloc (.cells #[.int .i64 mx, .int .i64 up, .int .i64 (k : Int), .int .i64 (-1), .int .i64 0] 49)).drew := ⟨_, rfl⟩
      have hb5 : Below wo.heap.size wo w5 := by rw [hw5]; exact below_drewN (bpush (Below.refl _ _) _) 1
      have hk5 : Blk w5 wo.heap.size 49 #[.int .i64 mx, .int .i64 up, .int .i64 (k : Int), .int .i64 (-1), .int .i64 0] := by rw [hw5]; exact Blk.new wo 49 _
      have HK5 := Lib.hid hk5
      have HB5 := Lib.hid hb5
      rw [← hw5]
      obtain ⟨g, hg⟩ : ∃ g, g = wo.heap.size := ⟨_, rfl⟩
      rw [← hg] at HK5 ⊢
      have HGG := Lib.hid hg
      have f0 := HK5.out.cell 0
      have f1 := HK5.out.cell 1
      have f2 := HK5.out.cell 2
      have f3 := HK5.out.cell 3
      have f4 := HK5.out.cell 4
      have z1 := HK5.out.frozen 1
      simp at f0 f1 f2 f3 f4
      have HO5 := Lib.hid (own_below HO.out hb5)
      clear hw5 hb5 hk5 hg d0 d1 d2 q0 hEbl hQbl
      by_cases hk9 : k = 0
      · have HTO := Lib.hid (show sx.upto = up by rw [HSX.out, hk9]; rfl)
        have HOX := HO5
        have HBX := Lib.hid (HB.out.trans (HB5.out.mono HB.out.size))
        have hgt : ¬ (0 : Int) < (k : Int) := by omega
        clear hk9
        go_upto_region 8 with fail
        by_cases hne : mx < up
        · have HSE := Lib.hid (show strS E fr up (k + 1) = U ++ [sx] by rw [HSN.out, if_pos (by rw [HFM.out, HTO.out]; exact hne)])
          have HENC := Lib.hid (show encX sx = [.int .i64 mx, .int .i64 up, .int .i64 (k : Int), .int .i64 (-1), .int .i64 0] by unfold encX; rw [HFM.out, HTO.out, HTI.out.1, HTI.out.2.1, HTI.out.2.2])
          obtain ⟨wb, hwb⟩ : ∃ wb, wb = w5.alloc (.cells #[.int .i64 mx, .int .i64 up, .int .i64 (k : Int), .int .i64 (-1), .int .i64 0] 49) := ⟨_, rfl⟩
          have hbb : Below w5.heap.size w5 wb := by rw [hwb]; exact bpush (Below.refl _ _) _
          have HOB := Lib.hid (own_below HOX.out hbb)
          have HRB := Lib.hid (show Row wb (some ⟨w5.heap.size, 0, none⟩) (encX sx) by rw [HENC.out, hwb]; exact Row.made (t := 49) rfl rfl)
          have HBB := Lib.hid (HBX.out.trans (hbb.mono HBX.out.size))
          have HZB := Lib.hid HBB.out.size
          have HWB := Lib.hid hwb
          clear hwb hbb
          go_wp2_with (at_builtin; rw [← HWB.out]; refine app_x rfl _ _ rfl w1.heap.size vv U rfl HOB.out w5.heap.size 1 sx rfl HRB.out HUL.out HZB.out ?_; intro v3 w9 ho3 hg3; have HO3 := Lib.hid ho3; have HB3 := Lib.hid (HBB.out.trans (grown_belowX HOB.out hg3 HZB.out)); clear ho3 hg3)
          go_roundw
          case rel => exact ⟨k + 1, v3, by omega, by go_num, rfl, Lib.hid (by rw [HSE.out]; exact HO3.out), HB3⟩
          case measure => simp [intOf]; omega
        · have HSE := Lib.hid (show strS E fr up (k + 1) = U by rw [HSN.out, if_neg (by rw [HFM.out, HTO.out]; exact hne), List.append_nil])
          go_wp2_with fail
          go_roundw
          case rel => exact ⟨k + 1, vv, by omega, by go_num, rfl, Lib.hid (by rw [HSE.out]; exact HOX.out), HBX⟩
          case measure => simp [intOf]; omega
      · obtain ⟨m, rfl⟩ : ∃ m, k = m + 1 := ⟨k - 1, by omega⟩
        have hmz : m < E.length := by omega
        obtain ⟨eb', eo', hAe, q1⟩ := (HEB.out.keep (Nat.le_refl _) HB5.out).cell hmz
        cases hAe
        obtain ⟨e2, he2⟩ : ∃ e, e = E[m] := ⟨_, rfl⟩
        rw [← he2] at q1
        obtain ⟨mn, hmn⟩ : ∃ x, min up e2 = x := ⟨_, rfl⟩
        have HMN := Lib.hid (show (if up < e2 then up else e2) = mn ∧ (if e2 < up then e2 else up) = mn by rw [← hmn]; constructor <;> (split <;> omega))
        have HTO := Lib.hid (show sx.upto = mn by
          rw [HSX.out]
          show (if m + 1 = 0 then up else min up (E.getD (m + 1 - 1) 0)) = mn
          rw [if_neg (by omega), ← hmn, he2]; simp [hmz])
        have hmw : IntKind.i64.wrap (m : Int) = (m : Int) := IntWalk.i64_in _ (by omega)
        have hgt : (0 : Int) < ((m + 1 : Nat) : Int) := by omega
        have hm0 : (0 : Int) ≤ (m : Int) := by omega
        have hm1 : (m : Int) < (tn : Int) := by omega
        clear hk9 he2 hmn
        go_upto_region 7 with fail
        go_still_tail 9, (by kernel_rfl)
        change wpList _ _ _ _ _ w5.drew
        go_upto_region 8 with fail
        rw [HMN.out.2]
        obtain ⟨w6, hw6⟩ : ∃ w6, w6 = (w5.setCell ⟨g, 1, none⟩ (.int .i64 mn)).drew := ⟨_, rfl⟩
        have hk6 : Blk w6 g 49 #[.int .i64 mx, .int .i64 mn, .int .i64 ((m : Int) + 1), .int .i64 (-1), .int .i64 0] := by
          have := HK5.out.set_ 1 (.int .i64 mn)
          simp at this
          rw [hw6]
          exact this
        have HOX := Lib.hid (show w6.ownsRow w1.heap.size 49 5 vv U.length (cellsX U) by
          rw [hw6]
          exact own_farX (cs := #[]) HO5.out (own_ltX HO.out (Nat.le_of_eq HGG.out.symm)) _)
        have HBX := Lib.hid (show Below w1.heap.size w1 w6 by
          rw [hw6]
          exact below_drewN (bset (HB.out.trans (HB5.out.mono HB.out.size)) (by rw [HGG.out]; exact HB.out.size) _) 1)
        rw [← hw6]
        clear f0 f1 f2 f3 f4 z1 q1
        have f0 := hk6.cell 0
        have f1 := hk6.cell 1
        have f2 := hk6.cell 2
        have f3 := hk6.cell 3
        have f4 := hk6.cell 4
        simp at f0 f1 f2 f3 f4
        have HTIK := Lib.hid (show sx.tier = (m : Int) + 1 by rw [HTI.out.1]; omega)
        clear hw6 hk6
        by_cases hne : mx < mn
        · have HSE := Lib.hid (show strS E fr up ((m + 1) + 1) = U ++ [sx] by rw [HSN.out, if_pos (by rw [HFM.out, HTO.out]; exact hne)])
          have HENC := Lib.hid (show encX sx = [.int .i64 mx, .int .i64 mn, .int .i64 ((m : Int) + 1), .int .i64 (-1), .int .i64 0] by unfold encX; rw [HFM.out, HTO.out, HTIK.out, HTI.out.2.1, HTI.out.2.2])
          obtain ⟨wb, hwb⟩ : ∃ wb, wb = w6.alloc (.cells #[.int .i64 mx, .int .i64 mn, .int .i64 ((m : Int) + 1), .int .i64 (-1), .int .i64 0] 49) := ⟨_, rfl⟩
          have hbb : Below w6.heap.size w6 wb := by rw [hwb]; exact bpush (Below.refl _ _) _
          have HOB := Lib.hid (own_below HOX.out hbb)
          have HRB := Lib.hid (show Row wb (some ⟨w6.heap.size, 0, none⟩) (encX sx) by rw [HENC.out, hwb]; exact Row.made (t := 49) rfl rfl)
          have HBB := Lib.hid (HBX.out.trans (hbb.mono HBX.out.size))
          have HZB := Lib.hid HBB.out.size
          have HWB := Lib.hid hwb
          clear hwb hbb
          go_wp2_with (at_builtin; rw [← HWB.out]; refine app_x rfl _ _ rfl w1.heap.size vv U rfl HOB.out w6.heap.size 1 sx rfl HRB.out HUL.out HZB.out ?_; intro v3 w9 ho3 hg3; have HO3 := Lib.hid ho3; have HB3 := Lib.hid (HBB.out.trans (grown_belowX HOB.out hg3 HZB.out)); clear ho3 hg3)
          go_roundw
          case rel => exact ⟨(m + 1) + 1, v3, by omega, by go_num, rfl, Lib.hid (by rw [HSE.out]; exact HO3.out), HB3⟩
          case measure => simp [intOf]; omega
        · have HSE := Lib.hid (show strS E fr up ((m + 1) + 1) = U by rw [HSN.out, if_neg (by rw [HFM.out, HTO.out]; exact hne), List.append_nil])
          go_wp2_with fail
          go_roundw
          case rel => exact ⟨(m + 1) + 1, vv, by omega, by go_num, rfl, Lib.hid (by rw [HSE.out]; exact HOX.out), HBX⟩
          case measure => simp [intOf]; omega
set_option maxRecDepth 100000 in
set_option maxHeartbeats 16000000 in
theorem rstr_any (p : PZ) (q : QZ) (eA : Option Addr) (en ec : Nat) (E : List Int) (w : World) (hE : Row w eA (E.map (Value.int .i64))) (hn : en = E.length) (ht : p.tn = en) (h20 : en ≤ 100000) :
    Calls Try.prog 9 #[.agg #[.slice p.tA p.tn p.tc, .slice p.jA p.jn p.jc, .int .i64 p.hor], .slice eA en ec, .agg #[.slice q.tA q.tn q.tc, .int .i64 q.frm, .int .i64 q.upto, .int .i64 q.every, .slice q.bA q.bn q.bc, .int .i64 q.f.op, .string q.f.dim, .string q.f.val, .slice q.f.A q.f.n q.f.c, .slice q.hA q.hn q.hc, .int .i64 q.order, .int .i64 q.limit]] w (PlansP w (strS E q.frm q.upto en)) := by
  obtain ⟨wa, hwa⟩ : ∃ wa, wa = w.alloc (.cells #[.slice p.tA p.tn p.tc, .slice p.jA p.jn p.jc, .int .i64 p.hor] 28) := ⟨_, rfl⟩
  obtain ⟨w1, hw1⟩ : ∃ w1, w1 = wa.alloc (.cells #[.slice q.tA q.tn q.tc, .int .i64 q.frm, .int .i64 q.upto, .int .i64 q.every, .slice q.bA q.bn q.bc, .int .i64 q.f.op, .string q.f.dim, .string q.f.val, .slice q.f.A q.f.n q.f.c, .slice q.hA q.hn q.hc, .int .i64 q.order, .int .i64 q.limit] 42) := ⟨_, rfl⟩
  have ba : Below w.heap.size w wa := by rw [hwa]; exact bpush (Below.refl _ _) _
  have bb : Below wa.heap.size wa w1 := by rw [hw1]; exact bpush (Below.refl _ _) _
  have kP : Blk wa w.heap.size 28 #[.slice p.tA p.tn p.tc, .slice p.jA p.jn p.jc, .int .i64 p.hor] := by rw [hwa]; exact Blk.new _ _ _
  have kQ : Blk w1 wa.heap.size 42 #[.slice q.tA q.tn q.tc, .int .i64 q.frm, .int .i64 q.upto, .int .i64 q.every, .slice q.bA q.bn q.bc, .int .i64 q.f.op, .string q.f.dim, .string q.f.val, .slice q.f.A q.f.n q.f.c, .slice q.hA q.hn q.hc, .int .i64 q.order, .int .i64 q.limit] := by rw [hw1]; exact Blk.new _ _ _
  have sza : wa.heap.size = w.heap.size + 1 := by rw [hwa]; simp
  rw [sza] at kQ
  have kP := kP.below bb
  have hb1 : Below w.heap.size w w1 := bthen ba bb
  have HB1 := Lib.hid hb1
  obtain ⟨P, hPe⟩ : ∃ P, P = w.heap.size := ⟨_, rfl⟩
  obtain ⟨Q, hQe⟩ : ∃ Q, Q = w.heap.size + 1 := ⟨_, rfl⟩
  rw [← hPe] at kP
  rw [← hQe] at kQ
  have HER := Lib.hid (hE.keep (Nat.le_refl _) hb1)
  obtain ⟨fr, hfr⟩ : ∃ y, y = q.frm := ⟨_, rfl⟩
  obtain ⟨up, hup⟩ : ∃ y, y = q.upto := ⟨_, rfl⟩
  obtain ⟨tn, htn⟩ : ∃ y, y = p.tn := ⟨_, rfl⟩
  have HCE := Lib.hid (fun W (hW : Below w1.heap.size w1 W) => show W.cell? ⟨P, 0, none⟩ = some (.slice p.tA tn p.tc) ∧ W.cell? ⟨Q, 1, none⟩ = some (.int .i64 fr) ∧ W.cell? ⟨Q, 2, none⟩ = some (.int .i64 up) from by
    rw [hfr, hup, htn]
    exact ⟨(p_cells (kP.below hW)).1, (q_cells (kQ.below hW)).2.1, (q_cells (kQ.below hW)).2.2.1⟩)
  have HW1 := Lib.hid (show w1 = (w.alloc (.cells #[.slice p.tA p.tn p.tc, .slice p.jA p.jn p.jc, .int .i64 p.hor] 28)).alloc (.cells #[.slice q.tA q.tn q.tc, .int .i64 q.frm, .int .i64 q.upto, .int .i64 q.every, .slice q.bA q.bn q.bc, .int .i64 q.f.op, .string q.f.dim, .string q.f.val, .slice q.f.A q.f.n q.f.c, .slice q.hA q.hn q.hc, .int .i64 q.order, .int .i64 q.limit] 42) by rw [hw1, hwa])
  have HE2 := Lib.hid (And.intro hPe hQe)
  have HN := Lib.hid hn
  have HPL := Lib.hid (Nat.le_refl w1.heap.size)
  rw [← htn] at ht
  obtain rfl := ht
  have HTN := Lib.hid htn
  have HFU := Lib.hid (And.intro hfr hup)
  have hnm : tn ≤ 9223372036854775807 := by omega
  have HPQ := Lib.hid (show Q < w1.heap.size from kQ.lt)
  obtain ⟨c0, c1, c2⟩ := HCE.out w1 (Below.refl _ _)
  clear hwa hw1 ba bb kP kQ sza hb1 hPe hQe hE hn htn hfr hup
  go_enter Try.func9, Try.ntmps9
  go_upto_region 1 with fail
  rw [← HW1.out, ← HE2.out.2, ← HE2.out.1]
  rw [← HTN.out, ← HFU.out.1, ← HFU.out.2]
  go_upto_region 3 with fail
  go_loopw [7, 8] (fun v7 vi wr => ∃ (k : Nat) (v : Value), k ≤ tn ∧ vi = .int .i64 k ∧ v = v7 ∧ Hid (wr.ownsRow w1.heap.size 49 5 v (strS E fr up k).length (cellsX (strS E fr up k))) ∧ Hid (Below w1.heap.size w1 wr)) (fun _ vi _ => tn - (intOf vi).toNat)
  case atStart => exact ⟨0, _, by omega, rfl, rfl, Lib.hid (World.ownsRow_nil _ _ _ _), Lib.hid (Below.refl _ _)⟩
  case round =>
    obtain ⟨k, vv, hk, rfl, rfl, HO, HB⟩ := hrel
    obtain ⟨wo, rfl⟩ : ∃ wo : World, wo = wr := ⟨_, rfl⟩
    obtain ⟨d0, d1, d2⟩ := HCE.out wo HB.out
    clear c0 c1 c2
    by_cases hlt : k < tn
    case neg =>
      obtain rfl : k = tn := by omega
      have hge : ¬ (k : Int) < (k : Int) := by omega
      clear hlt
      go_wp2_with fail
      go_ret
      obtain ⟨A, c, rfl, -⟩ := own_sliceX HO.out
      exact ⟨_, rfl, by rw [← HFU.out.1, ← HFU.out.2]; exact own_lowerX HO.out HB1.out.size, bthen HB1.out HB.out⟩
    case pos =>
    have hkz : k < E.length := by have := HN.out; omega
    have hki : (k : Int) < (tn : Int) := by omega
    have hk0 : (0 : Int) ≤ (k : Int) := by omega
    have hER := HER.out.keep (Nat.le_refl _) HB.out
    obtain ⟨eb, eo, hAe, q0⟩ := hER.cell hkz
    obtain ⟨e, he⟩ : ∃ e, e = E[k] := ⟨_, rfl⟩
    rw [← he] at q0
    obtain ⟨mx, hmx⟩ : ∃ m, max fr e = m := ⟨_, rfl⟩
    have HMX := Lib.hid (show (if fr < e then e else fr) = mx by rw [← hmx]; split <;> omega)
    have HSN := Lib.hid (strS_succ E fr up k)
    have hlen := strS_len E fr up k
    have HFM := Lib.hid (show (strAt E fr up k).frm = mx by
      show max fr (E.getD k 0) = mx
      rw [← hmx, he]; simp [hkz])
    have HTI := Lib.hid (show (strAt E fr up k).tier = (k : Int) ∧ (strAt E fr up k).proj = -1 ∧ (strAt E fr up k).rows = 0 from ⟨rfl, rfl, rfl⟩)
    obtain ⟨sx, hsx⟩ : ∃ s, s = strAt E fr up k := ⟨_, rfl⟩
    rw [← hsx] at HSN HFM HTI
    obtain ⟨U, hU⟩ : ∃ U, U = strS E fr up k := ⟨_, rfl⟩
    rw [← hU] at HSN HO hlen
    have HUL := Lib.hid (show U.length ≤ 100000 by omega)
    have HSX := Lib.hid hsx
    have hEbl : eb < wo.heap.size := lt_of_cell q0
    have hQbl : Q < wo.heap.size := Nat.lt_of_lt_of_le HPQ.out HB.out.size
    have HEB := Lib.hid hER
    subst hAe
    clear hmx he hsx hU hlen hlt hER
    go_upto_region 5 with fail
    go_region_held3 (fun w' => w'.cell? ⟨Q, 1, none⟩ = some (.int .i64 fr) ∧ w'.cell? ⟨Q, 2, none⟩ = some (.int .i64 up) ∧ w'.cell? ⟨eb, eo + k, none⟩ = some (.int .i64 e))
      (first | go_keep | exact ⟨d1, d2, q0⟩)
      (first | (fail))
    all_goals
      rw [HMX.out]
      obtain ⟨w5, hw5⟩ : ∃ w5, w5 = (wo.alloc (.cells #[.int .i64 mx, .int .i64 up, .int .i64 (k : Int), .int .i64 (-1), .int .i64 0] 49)).drew := ⟨_, rfl⟩
      have hb5 : Below wo.heap.size wo w5 := by rw [hw5]; exact below_drewN (bpush (Below.refl _ _) _) 1
      have hk5 : Blk w5 wo.heap.size 49 #[.int .i64 mx, .int .i64 up, .int .i64 (k : Int), .int .i64 (-1), .int .i64 0] := by rw [hw5]; exact Blk.new wo 49 _
      have HK5 := Lib.hid hk5
      have HB5 := Lib.hid hb5
      rw [← hw5]
      obtain ⟨g, hg⟩ : ∃ g, g = wo.heap.size := ⟨_, rfl⟩
      rw [← hg] at HK5 ⊢
      have HGG := Lib.hid hg
      have f0 := HK5.out.cell 0
      have f1 := HK5.out.cell 1
      have f2 := HK5.out.cell 2
      have f3 := HK5.out.cell 3
      have f4 := HK5.out.cell 4
      have z1 := HK5.out.frozen 1
      simp at f0 f1 f2 f3 f4
      have HO5 := Lib.hid (own_below HO.out hb5)
      clear hw5 hb5 hk5 hg d0 d1 d2 q0 hEbl hQbl
      by_cases hk9 : k = 0
      · have HTO := Lib.hid (show sx.upto = up by rw [HSX.out, hk9]; rfl)
        have HOX := HO5
        have HBX := Lib.hid (HB.out.trans (HB5.out.mono HB.out.size))
        have hgt : ¬ (0 : Int) < (k : Int) := by omega
        clear hk9
        go_upto_region 8 with fail
        by_cases hne : mx < up
        · have HSE := Lib.hid (show strS E fr up (k + 1) = U ++ [sx] by rw [HSN.out, if_pos (by rw [HFM.out, HTO.out]; exact hne)])
          have HENC := Lib.hid (show encX sx = [.int .i64 mx, .int .i64 up, .int .i64 (k : Int), .int .i64 (-1), .int .i64 0] by unfold encX; rw [HFM.out, HTO.out, HTI.out.1, HTI.out.2.1, HTI.out.2.2])
          obtain ⟨wb, hwb⟩ : ∃ wb, wb = w5.alloc (.cells #[.int .i64 mx, .int .i64 up, .int .i64 (k : Int), .int .i64 (-1), .int .i64 0] 49) := ⟨_, rfl⟩
          have hbb : Below w5.heap.size w5 wb := by rw [hwb]; exact bpush (Below.refl _ _) _
          have HOB := Lib.hid (own_below HOX.out hbb)
          have HRB := Lib.hid (show Row wb (some ⟨w5.heap.size, 0, none⟩) (encX sx) by rw [HENC.out, hwb]; exact Row.made (t := 49) rfl rfl)
          have HBB := Lib.hid (HBX.out.trans (hbb.mono HBX.out.size))
          have HZB := Lib.hid HBB.out.size
          have HWB := Lib.hid hwb
          clear hwb hbb
          go_wp2_with (at_builtin; rw [← HWB.out]; refine app_x rfl _ _ rfl w1.heap.size vv U rfl HOB.out w5.heap.size 1 sx rfl HRB.out HUL.out HZB.out ?_; intro v3 w9 ho3 hg3; have HO3 := Lib.hid ho3; have HB3 := Lib.hid (HBB.out.trans (grown_belowX HOB.out hg3 HZB.out)); clear ho3 hg3)
          go_roundw
          case rel => exact ⟨k + 1, v3, by omega, by go_num, rfl, Lib.hid (by rw [HSE.out]; exact HO3.out), HB3⟩
          case measure => simp [intOf]; omega
        · have HSE := Lib.hid (show strS E fr up (k + 1) = U by rw [HSN.out, if_neg (by rw [HFM.out, HTO.out]; exact hne), List.append_nil])
          go_wp2_with fail
          go_roundw
          case rel => exact ⟨k + 1, vv, by omega, by go_num, rfl, Lib.hid (by rw [HSE.out]; exact HOX.out), HBX⟩
          case measure => simp [intOf]; omega
      · obtain ⟨m, rfl⟩ : ∃ m, k = m + 1 := ⟨k - 1, by omega⟩
        have hmz : m < E.length := by omega
        obtain ⟨eb', eo', hAe, q1⟩ := (HEB.out.keep (Nat.le_refl _) HB5.out).cell hmz
        cases hAe
        obtain ⟨e2, he2⟩ : ∃ e, e = E[m] := ⟨_, rfl⟩
        rw [← he2] at q1
        obtain ⟨mn, hmn⟩ : ∃ x, min up e2 = x := ⟨_, rfl⟩
        have HMN := Lib.hid (show (if up < e2 then up else e2) = mn ∧ (if e2 < up then e2 else up) = mn by rw [← hmn]; constructor <;> (split <;> omega))
        have HTO := Lib.hid (show sx.upto = mn by
          rw [HSX.out]
          show (if m + 1 = 0 then up else min up (E.getD (m + 1 - 1) 0)) = mn
          rw [if_neg (by omega), ← hmn, he2]; simp [hmz])
        have hmw : IntKind.i64.wrap (m : Int) = (m : Int) := IntWalk.i64_in _ (by omega)
        have hgt : (0 : Int) < ((m + 1 : Nat) : Int) := by omega
        have hm0 : (0 : Int) ≤ (m : Int) := by omega
        have hm1 : (m : Int) < (tn : Int) := by omega
        clear hk9 he2 hmn
        go_upto_region 7 with fail
        go_still_tail 9, (by kernel_rfl)
        change wpList _ _ _ _ _ w5.drew
        go_upto_region 8 with fail
        rw [HMN.out.2]
        obtain ⟨w6, hw6⟩ : ∃ w6, w6 = (w5.setCell ⟨g, 1, none⟩ (.int .i64 mn)).drew := ⟨_, rfl⟩
        have hk6 : Blk w6 g 49 #[.int .i64 mx, .int .i64 mn, .int .i64 ((m : Int) + 1), .int .i64 (-1), .int .i64 0] := by
          have := HK5.out.set_ 1 (.int .i64 mn)
          simp at this
          rw [hw6]
          exact this
        have HOX := Lib.hid (show w6.ownsRow w1.heap.size 49 5 vv U.length (cellsX U) by
          rw [hw6]
          exact own_farX (cs := #[]) HO5.out (own_ltX HO.out (Nat.le_of_eq HGG.out.symm)) _)
        have HBX := Lib.hid (show Below w1.heap.size w1 w6 by
          rw [hw6]
          exact below_drewN (bset (HB.out.trans (HB5.out.mono HB.out.size)) (by rw [HGG.out]; exact HB.out.size) _) 1)
        rw [← hw6]
        clear f0 f1 f2 f3 f4 z1 q1
        have f0 := hk6.cell 0
        have f1 := hk6.cell 1
        have f2 := hk6.cell 2
        have f3 := hk6.cell 3
        have f4 := hk6.cell 4
        simp at f0 f1 f2 f3 f4
        have HTIK := Lib.hid (show sx.tier = (m : Int) + 1 by rw [HTI.out.1]; omega)
        clear hw6 hk6
        by_cases hne : mx < mn
        · have HSE := Lib.hid (show strS E fr up ((m + 1) + 1) = U ++ [sx] by rw [HSN.out, if_pos (by rw [HFM.out, HTO.out]; exact hne)])
          have HENC := Lib.hid (show encX sx = [.int .i64 mx, .int .i64 mn, .int .i64 ((m : Int) + 1), .int .i64 (-1), .int .i64 0] by unfold encX; rw [HFM.out, HTO.out, HTIK.out, HTI.out.2.1, HTI.out.2.2])
          obtain ⟨wb, hwb⟩ : ∃ wb, wb = w6.alloc (.cells #[.int .i64 mx, .int .i64 mn, .int .i64 ((m : Int) + 1), .int .i64 (-1), .int .i64 0] 49) := ⟨_, rfl⟩
          have hbb : Below w6.heap.size w6 wb := by rw [hwb]; exact bpush (Below.refl _ _) _
          have HOB := Lib.hid (own_below HOX.out hbb)
          have HRB := Lib.hid (show Row wb (some ⟨w6.heap.size, 0, none⟩) (encX sx) by rw [HENC.out, hwb]; exact Row.made (t := 49) rfl rfl)
          have HBB := Lib.hid (HBX.out.trans (hbb.mono HBX.out.size))
          have HZB := Lib.hid HBB.out.size
          have HWB := Lib.hid hwb
          clear hwb hbb
          go_wp2_with (at_builtin; rw [← HWB.out]; refine app_x rfl _ _ rfl w1.heap.size vv U rfl HOB.out w6.heap.size 1 sx rfl HRB.out HUL.out HZB.out ?_; intro v3 w9 ho3 hg3; have HO3 := Lib.hid ho3; have HB3 := Lib.hid (HBB.out.trans (grown_belowX HOB.out hg3 HZB.out)); clear ho3 hg3)
          go_roundw
          case rel => exact ⟨(m + 1) + 1, v3, by omega, by go_num, rfl, Lib.hid (by rw [HSE.out]; exact HO3.out), HB3⟩
          case measure => simp [intOf]; omega
        · have HSE := Lib.hid (show strS E fr up ((m + 1) + 1) = U by rw [HSN.out, if_neg (by rw [HFM.out, HTO.out]; exact hne), List.append_nil])
          go_wp2_with fail
          go_roundw
          case rel => exact ⟨(m + 1) + 1, vv, by omega, by go_num, rfl, Lib.hid (by rw [HSE.out]; exact HOX.out), HBX⟩
          case measure => simp [intOf]; omega
end Go.Proofs.Ytgaallkdfcckpaa
