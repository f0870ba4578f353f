/- Project. -/
import Derived.Test.YtkfcpmmiimpkbaaCX
import Derived.Test.YtkfcpmmiimpkbaaNB
import Derived.Test.YtkfcpmmiimpkbaaSN
namespace Go.Proofs.Ytkfcpmmiimpkbaa
open Go.RowKit Go.Shelf
set_option linter.unusedSimpArgs false
set_option linter.unusedVariables false
/-- A row in a cuboid. -/
def projR (g : Int) (I : List Nat) (r : RV) : RV := ⟨flr r.t g, pickL r.dims I, r.count, r.aggs⟩
def ProjPost (w : World) (g : Int) (L M : List ByteArray) (Z : List RZ) (e : Ending) (w' : World) : Prop :=
  (¬ subsetP M L ∧ e = .returned (.tuple #[.slice none 0 0, .int .i64 141]) ∧ Below w.heap.size w w') ∨
  (subsetP M L ∧ ¬ okGran g ∧ e = .returned (.tuple #[.slice none 0 0, .int .i64 111]) ∧ Below w.heap.size w w') ∨
  (subsetP M L ∧ okGran g ∧ ∃ I, PlcIs L M I ∧ I.length = M.length ∧ ∃ A n c Y x K', e = .returned (.tuple #[.slice A n c, .int .i64 x]) ∧ n = Y.length ∧ SortsTo (Z.map fun z => projR g I z.2) K' ∧ foldL K' = (Y.map Prod.snd, x) ∧ RowsC w' A Y ∧ (n ≤ c ∧ (A = none → c = 0)) ∧ n ≤ 9223372036854775807 ∧ Below w.heap.size w w')
/-- A row that was made in a cuboid: its values are one's own, its aggs lie as they lay. -/
structure Pj (w2 W : World) (y : RZ) : Prop where
  d : W.ownsRow w2.heap.size 9 1 (.slice y.1.D y.1.n y.1.c) y.1.n (texts y.2.dims)
  sd : y.1.n * 16 ≤ 140737488355328
  rg : Row w2 y.1.G (cellsG y.2.aggs)
  ng : y.1.gn = y.2.aggs.length
  cg : y.1.gn ≤ y.1.gc
  ag : y.1.G = none → y.1.gc = 0
  sg : y.1.gn * 24 ≤ 140737488355328
theorem Pj.good {w2 W : World} {y : RZ} (h : Pj w2 W y) (hb : Below w2.heap.size w2 W) : Good W y := by
  obtain ⟨A, c, e, hr, hc, ha⟩ := own_slice h.d
  cases e
  refine ⟨hr, ?_, hc, ha, h.sd, h.rg.keep (Nat.le_refl _) hb, h.ng, h.cg, h.ag, h.sg⟩
  have := h.d.1; unfold texts at this; simpa using this.symm
theorem Pj.keep {w2 W W' : World} {y : RZ} (h : Pj w2 W y) (hb : Below W.heap.size W W') : Pj w2 W' y := { h with d := own_below h.d hb }
theorem Pj.app {w2 W W' : World} {y : RZ} {B n : Nat} {v : Value} {xs : List Value} (h : Pj w2 W y) (ho : W.ownsRow B 45 4 v n xs) (hg : W.grownBy W' v.ownBlock) : Pj w2 W' y := { h with d := h.d.kept hg (own_not_own h.d ho (by decide)) }
theorem names_in {L M : List ByteArray} (h : subsetP M L) : ∀ s ∈ M, s ∈ L := fun s hs => h.2.subset hs
set_option maxRecDepth 100000 in
set_option maxHeartbeats 16000000 in
theorem project_any (A B C E : Option Addr) (n c m d k cap p pc : Nat) (g : Int) (L M : List ByteArray) (Z : List RZ) (w : World) (hA : Row w A (texts L)) (hn : n = L.length) (hnc : n ≤ c) (hn2 : n ≤ 1000000) (hc2 : c ≤ 9223372036854775807) (hC : RowsC w C Z) (hk : k = Z.length) (hk2 : k ≤ 1000000)
    (hE : Row w E (texts M)) (hp : p = M.length) (hpc : p ≤ pc) (hp2 : p ≤ 1000000) (hM : ∀ s ∈ M, s.size ≤ 9223372036854775807) (hZ : ∀ z ∈ Z, z.2.dims.length = L.length ∧ 0 ≤ z.2.t ∧ z.2.t ≤ 1099511627776 ∧ 0 ≤ z.2.count ∧ z.2.count ≤ 1048576) :
    Calls Try.prog 9 #[.agg #[.slice A n c, .slice B m d], .slice C k cap, .slice E p pc, .int .i64 g] w (ProjPost w g L M Z) := by
  obtain ⟨W1, hW1⟩ : ∃ W1, W1 = w.alloc (.cells #[.slice A n c, .slice B m d] 24) := ⟨_, rfl⟩
  have hb1 : Below w.heap.size w W1 := by rw [hW1]; exact bpush (Below.refl _ _) _
  have HB1 := Lib.hid hb1
  have HS01 := Lib.hid (show W1.cell? ⟨w.heap.size, 0, none⟩ = some (.slice A n c) ∧ W1.cell? ⟨w.heap.size, 1, none⟩ = some (.slice B m d) by rw [hW1]; exact ⟨cell_made rfl rfl, cell_made rfl rfl⟩)
  have HA := Lib.hid (hA.keep (Nat.le_refl _) hb1)
  have HC := Lib.hid (hC.keep hb1)
  have HE := Lib.hid (hE.keep (Nat.le_refl _) hb1)
  obtain ⟨r, hr⟩ := bool_of (subsetP M L)
  have HR := Lib.hid hr
  have HSB := Lib.hid (subset_any E A p pc n c M L W1 HE.out HA.out hp hn hpc hnc hM (by omega) hc2 r hr)
  have HN := Lib.hid hn
  have HK := Lib.hid hk
  have HP := Lib.hid hp
  have HZ := Lib.hid hZ
  have HW1 := Lib.hid hW1
  obtain ⟨i0, hi0, hz0, hz1, hz2⟩ := info_parts info27
  clear hA hC hE hn hk hp hM hZ hr hW1 hb1 hnc hpc hc2
  go_enter Try.func9, Try.ntmps9
  go_upto_region 1 with fail
  rw [← HW1.out]
  obtain ⟨s0, s1⟩ := HS01.out
  cases r with
  | false =>
    go_wp2_with (go_at_call 22; refine HSB.out.mono ?_; rintro e w1 ⟨rfl, hb⟩; have HBB := Lib.hid hb; clear hb)
    exact bodyPost_ret (v := .tuple #[.slice none 0 0, .int .i64 141]) (by simp [results, Try.results9, go_sem]) rfl (Or.inl ⟨(fun h => by have := HR.out.2 h; cases this), rfl, bthen HB1.out HBB.out⟩)
  | true =>
  have HSUB := Lib.hid (HR.out.1 rfl)
  by_cases hg : okGran g
  case neg =>
    have HG := Lib.hid hg
    clear hg
    go_wp2_with (first
      | (go_at_call 22; refine HSB.out.mono ?_; rintro e w1 ⟨rfl, hb⟩; have HBB := Lib.hid hb; clear hb)
      | (go_at_call 23; refine (right_no _ _ HG.out).mono ?_; rintro e w1 ⟨rfl, rfl⟩))
    exact bodyPost_ret (v := .tuple #[.slice none 0 0, .int .i64 111]) (by simp [results, Try.results9, go_sem]) rfl (Or.inr (Or.inl ⟨HSUB.out, HG.out, rfl, bthen HB1.out HBB.out⟩))
  case pos =>
  have HG := Lib.hid hg
  clear hg
  have HFL := Lib.hid (show ∀ (t : Int) (W : World), 0 ≤ t → t ≤ 1099511627776 → Calls Try.prog 25 #[.int .i64 t, .int .i64 g] W fun e w' => e = .returned (.tuple #[.int .i64 (flr t g), .int .i64 0]) ∧ W = w' from fun t W h1 h2 => Floor_good t g W ⟨HG.out, by omega, by omega⟩)
  go_upto_region 5 with (first
    | (go_at_call 22; refine HSB.out.mono ?_; rintro e w1 ⟨rfl, hb⟩; have HBB := Lib.hid hb; clear hb)
    | (go_at_call 23; refine (right_yes _ _ HG.out).mono ?_; rintro e w1 ⟨rfl, rfl⟩))
  have s0' := cell_on HBB.out s0
  have s1' := cell_on HBB.out s1
  clear s0 s1
  have HPL := Lib.hid (places_any A B E n c m d p pc L M w1 (HA.out.keep (Nat.le_refl _) HBB.out) HN.out (by omega) (HE.out.keep (Nat.le_refl _) HBB.out) HP.out hp2 (names_in HSUB.out))
  go_upto_region 6 with (go_at_call 24; refine HPL.out.mono ?_; rintro e w2 ⟨I, A2, c2, rfl, ho, hI, hIl, hb⟩; have HO2 := Lib.hid ho; have HI := Lib.hid hI; have HIL := Lib.hid hIl; have HB2 := Lib.hid hb; clear ho hI hIl hb)
  obtain ⟨hq1, A2', c2', e2, hri, hq2, hq3⟩ := own_int HO2.out
  cases e2
  clear hq1 hq2 hq3
  have HRI := Lib.hid hri
  have HBT := Lib.hid (bthen (bthen HB1.out HBB.out) HB2.out)
  have HCW := Lib.hid (HC.out.keep (bthen HBB.out HB2.out))
  clear hri s0' s1' HPL HSB
  go_upto_region 7 with (at_make; refine wpList_make_own _ rfl _ _ 25 rfl w2.heap.size 45 i0 (.agg #[.int .i64 0, .slice none 0 0, .int .i64 0, .slice none 0 0]) 4 Try.underlying25 hi0 hz0 hz1 .i64 .i64 _ k rfl rfl rfl (by rw [hz2]; omega) (by unfold maxLen; omega) (by simp) ?_; intro w3 ho3 hg3; have HO3 := Lib.hid ho3; have HG3 := Lib.hid hg3; clear ho3 hg3)
  have HB3 := Lib.hid (show Below w2.heap.size w2 w3 from (Below.refl _ _).grown HG3.out (by simp) (fun k e => by cases e))
  clear HG3
  go_wp2_with fail
  go_loopw [11, 32] (fun v11 v32 wr => ∃ (j : Nat) (A' : Option Addr) (c' : Nat) (O : List RZ), v11 = .slice A' j c' ∧ v32 = .int .i64 j ∧ j ≤ k ∧ Hid (wr.ownsRow w2.heap.size 45 4 (.slice A' j c') j (cellsR O)) ∧ Hid (∀ y ∈ O, Pj w2 wr y) ∧ Hid (O.map Prod.snd = (Z.take j).map fun z => projR g I z.2) ∧ Hid (Below w2.heap.size w2 wr)) (fun _ v32 _ => k - (intOf v32).toNat)
  case atStart => exact ⟨0, _, _, [], rfl, rfl, Nat.zero_le _, HO3, Lib.hid (fun y hy => by cases hy), Lib.hid rfl, HB3⟩
  case round =>
    clear HO3 HB3
    obtain ⟨j, A', c', O, rfl, rfl, hjk, HO, HGO, HM, HB⟩ := hrel
    by_cases hlt : j < k
    case neg =>
      obtain rfl : j = k := by omega
      have hjz : ¬ ((j : Int) < (j : Int)) := by omega
      obtain ⟨hq, A5, c5, e5, hr5, hq1, hq2, hq3⟩ := own_sliceR HO.out
      cases e5
      have hmm : O.map Prod.snd = Z.map fun z => projR g I z.2 := by rw [HM.out, List.take_of_length_le (by rw [HK.out]; exact Nat.le_refl _)]
      have HMM := Lib.hid hmm
      have hct : ∀ z ∈ O, 0 ≤ z.2.count ∧ z.2.count ≤ 1048576 := fun z hz => by
        have h1 : z.2 ∈ O.map Prod.snd := List.mem_map.2 ⟨z, hz, rfl⟩
        rw [hmm] at h1
        obtain ⟨y, hy, e⟩ := List.mem_map.1 h1
        have := (HZ.out y hy).2.2.2
        rw [← e]; exact this
      have HFO := Lib.hid (fold_any A' j c' O wr ⟨hr5, fun y hy => (HGO.out y hy).good HB.out⟩ hq hq1 hq3 hk2 hct)
      clear hlt hq hr5 hq1 hq2 hq3 hmm hct HGO
      go_wp2_with (go_at_call 27; refine HFO.out.mono ?_; rintro e w6 ⟨v6, Y6, x6, K6, rfl, hs6, hf6, ho6, hy6, hb6⟩; obtain ⟨hk6, A6, c6, rfl, hr6, q1, q2, q3⟩ := own_sliceR ho6; clear hk6; have HS6 := Lib.hid hs6; have HF6 := Lib.hid hf6; have HR6 := Lib.hid hr6; have HY6 := Lib.hid hy6; have HB6 := Lib.hid hb6; have HQ6 := Lib.hid (And.intro q1 q2); have HQ7 := Lib.hid q3; clear q1 q2 q3 hs6 hf6 ho6 hy6 hb6 hr6)
      refine bodyPost_ret (v := .tuple #[.slice A6 Y6.length c6, .int .i64 x6]) (by simp [results, Try.results9, go_sem]) rfl (Or.inr (Or.inr ⟨HSUB.out, HG.out, I, HI.out, by rw [HIL.out, HP.out], A6, Y6.length, c6, Y6, x6, K6, rfl, rfl, ?_, HF6.out, ⟨HR6.out, fun y hy => (HY6.out y hy).good⟩, ⟨HQ6.out.1, HQ7.out⟩, ?_, ?_⟩))
      · have := HS6.out
        rw [HMM.out] at this
        exact this
      · have h1 := HQ6.out.1
        have h2 := HQ6.out.2
        unfold maxLen at h2
        omega
      · exact bthen (bthen HBT.out HB.out) HB6.out
    case pos =>
    have hjz : (j : Int) < (k : Int) := by omega
    have hj0 : (0 : Int) ≤ (j : Int) := by omega
    have hjZ : j < Z.length := by have := HK.out; omega
    obtain ⟨x, hx⟩ : ∃ x, x = Z[j] := ⟨_, rfl⟩
    obtain ⟨bA, oA, hAe, x0, x1, x2, x3⟩ := row4 ((HCW.out.keep HB.out).row) hjZ
    subst hAe
    rw [← hx] at x0 x1 x2 x3
    have hxz := HZ.out _ (List.getElem_mem hjZ)
    rw [← hx] at hxz
    have HXG := Lib.hid (show Good wr x by rw [hx]; exact (HCW.out.good _ (List.getElem_mem hjZ)).keep HB.out)
    have HX0 := Lib.hid (show Good w2 x by rw [hx]; exact HCW.out.good _ (List.getElem_mem hjZ))
    have HTK := Lib.hid (show (Z.take (j + 1)).map (fun z => projR g I z.2) = (Z.take j).map (fun z => projR g I z.2) ++ [projR g I x.2] by rw [List.take_succ_eq_append_getElem hjZ, List.map_append, ← hx]; rfl)
    clear hx
    obtain ⟨⟨D1, n1, c1, G1, gn1, gc1⟩, ⟨t1, L1, u1, X1⟩⟩ := x
    simp only at x0 x1 x2 x3 HTK hxz
    obtain ⟨hxl, ht0, ht1, _, _⟩ := hxz
    have HXL := Lib.hid hxl
    clear hxl
    obtain ⟨tt, htt⟩ : ∃ tt, tt = flr t1 g := ⟨_, rfl⟩
    have HTT := Lib.hid htt
    have HFC := Lib.hid (show ∀ W, Calls Try.prog 25 #[.int .i64 t1, .int .i64 g] W fun e w' => e = .returned (.tuple #[.int .i64 tt, .int .i64 0]) ∧ W = w' from fun W => by rw [htt]; exact HFL.out t1 W ht0 ht1)
    clear htt
    go_upto_region 10 with fail
    obtain ⟨wb, hwb⟩ : ∃ wb, wb = wr.alloc (.cells #[.int .i64 t1, .slice D1 n1 c1, .int .i64 u1, .slice G1 gn1 gc1] 45) := ⟨_, rfl⟩
    have hbk : Blk wb wr.heap.size 45 #[.int .i64 t1, .slice D1 n1 c1, .int .i64 u1, .slice G1 gn1 gc1] := by rw [hwb]; exact Blk.new _ _ _
    have y0 := hbk.cell 0
    simp at y0
    have HBb := Lib.hid (show Below w2.heap.size w2 wb by rw [hwb]; exact bpush HB.out _)
    have HOb := Lib.hid (show wb.ownsRow w2.heap.size 45 4 (.slice A' j c') j (cellsR O) by rw [hwb]; exact HO.out.alloc _)
    have HNE := Lib.hid (own_fresh HO.out)
    have HGb := Lib.hid (show ∀ y ∈ O, Pj w2 wb y by rw [hwb]; exact fun y hy => (HGO.out y hy).keep (bpush (Below.refl _ _) _))
    have HXb := Lib.hid (HXG.out.keep (show Below wr.heap.size wr wb by rw [hwb]; exact bpush (Below.refl _ _) _))
    rw [← hwb]
    have HBK := Lib.hid hbk
    obtain ⟨g8, hg8⟩ : ∃ g8, g8 = wr.heap.size := ⟨_, rfl⟩
    rw [← hg8] at HBK HNE y0 ⊢
    clear hwb hbk HO HB HGO HXG x0 x1 x2 x3 hg8
    go_upto_region 13 with (go_at_call 25; refine (HFC.out _).mono ?_; rintro e w5 ⟨rfl, rfl⟩)
    clear y0
    refine wp_region_held_drew (S := fun w' => Blk w' g8 45 #[.int .i64 t1, .slice D1 n1 c1, .int .i64 u1, .slice G1 gn1 gc1]) (by kernel_rfl) HBK.out ?_
    intro hHeld
    obtain ⟨wd, hwd⟩ : ∃ wd, wd = wb.drew := ⟨_, rfl⟩
    have hbd : Below wb.heap.size wb wd := by rw [hwd]; exact below_drewN (Below.refl _ _) 1
    have HOd := Lib.hid (own_below HOb.out hbd)
    have HGd := Lib.hid (show ∀ y ∈ O, Pj w2 wd y from fun y hy => (HGb.out y hy).keep hbd)
    have HXd := Lib.hid (HXb.out.keep hbd)
    have HBd := Lib.hid (bthen HBb.out hbd)
    have HBX := Lib.hid (show w2.heap.size ≤ wd.heap.size from (bthen HBb.out hbd).size)
    rw [← hwd] at hHeld ⊢
    clear hwd hbd HOb HGb HXb HBb
    have HPK := Lib.hid (pick_any D1 A2 n1 c1 p c2 L1 I wd HXd.out.rd HXd.out.nd (by have h := HXd.out.sd; simp only at h; omega) (HRI.out.keep (Nat.le_refl _) HBd.out) HIL.out.symm hp2 (fun i hi => by
      obtain ⟨q, hq, rfl⟩ := List.getElem_of_mem hi
      obtain ⟨h1, _⟩ := HI.out.2 q hq (by have h2 := HIL.out; have h3 := HP.out; omega)
      rw [HXL.out]; exact h1))
    refine take_want (i := 0) (v := ?v0m1) rfl (by kernel_rfl) (by kernel_rfl) (by kernel_rfl) (fun _ _ _ h => h) (by rfl) ?y0m1 (by assumption) ?r0m1
    case y0m1 => (intro w hSw; have r0 := hSw.cell 0; have r1 := hSw.cell 1; have r2 := hSw.cell 2; have r3 := hSw.cell 3; simp at r0 r1 r2 r3; go_simp; all_goals with_reducible rfl)
    (try simp only [Act.put, List.setIfInBounds_toArray, List.set_cons_zero, List.set_cons_succ])
    refine take_want (i := 1) (v := ?v1m2) rfl (by kernel_rfl) (by kernel_rfl) (by kernel_rfl) (fun _ _ _ h => h) (by rfl) ?y1m2 (by assumption) ?r1m2
    case y1m2 => (intro w hSw; have r0 := hSw.cell 0; have r1 := hSw.cell 1; have r2 := hSw.cell 2; have r3 := hSw.cell 3; simp at r0 r1 r2 r3; go_simp; all_goals with_reducible rfl)
    (try simp only [Act.put, List.setIfInBounds_toArray, List.set_cons_zero, List.set_cons_succ])
    refine take_want (i := 2) (v := ?v2m3) rfl (by kernel_rfl) (by kernel_rfl) (by kernel_rfl) (fun _ _ _ h => h) (by rfl) ?y2m3 (by assumption) ?r2m3
    case y2m3 => (intro w hSw; have r0 := hSw.cell 0; have r1 := hSw.cell 1; have r2 := hSw.cell 2; have r3 := hSw.cell 3; simp at r0 r1 r2 r3; go_simp; all_goals with_reducible rfl)
    (try simp only [Act.put, List.setIfInBounds_toArray, List.set_cons_zero, List.set_cons_succ])
    refine take_want (i := 3) (v := ?v3m4) rfl (by kernel_rfl) (by kernel_rfl) (by kernel_rfl) (fun _ _ _ h => h) (by rfl) ?y3m4 (by assumption) ?r3m4
    case y3m4 => (intro w hSw; have r0 := hSw.cell 0; have r1 := hSw.cell 1; have r2 := hSw.cell 2; have r3 := hSw.cell 3; simp at r0 r1 r2 r3; go_simp; all_goals with_reducible rfl)
    (try simp only [Act.put, List.setIfInBounds_toArray, List.set_cons_zero, List.set_cons_succ])
    refine take_want (i := 4) (v := ?v4m5) rfl (by kernel_rfl) (by kernel_rfl) (by kernel_rfl) (fun _ _ _ h => h) (by rfl) ?y4m5 (by assumption) ?r4m5
    case y4m5 => (intro w hSw; have r0 := hSw.cell 0; have r1 := hSw.cell 1; have r2 := hSw.cell 2; have r3 := hSw.cell 3; simp at r0 r1 r2 r3; go_simp; all_goals with_reducible rfl)
    (try simp only [Act.put, List.setIfInBounds_toArray, List.set_cons_zero, List.set_cons_succ])
    refine take_want (i := 6) (v := ?v6m6) rfl (by kernel_rfl) (by kernel_rfl) (by kernel_rfl) (fun _ _ _ h => h) (by rfl) ?y6m6 (by assumption) ?r6m6
    case y6m6 => (intro w hSw; have r0 := hSw.cell 0; have r1 := hSw.cell 1; have r2 := hSw.cell 2; have r3 := hSw.cell 3; simp at r0 r1 r2 r3; go_simp; all_goals with_reducible rfl)
    (try simp only [Act.put, List.setIfInBounds_toArray, List.set_cons_zero, List.set_cons_succ])
    refine take_want (i := 7) (v := ?v7m7) rfl (by kernel_rfl) (by kernel_rfl) (by kernel_rfl) (fun _ _ _ h => h) (by rfl) ?y7m7 (by assumption) ?r7m7
    case y7m7 => (intro w hSw; have r0 := hSw.cell 0; have r1 := hSw.cell 1; have r2 := hSw.cell 2; have r3 := hSw.cell 3; simp at r0 r1 r2 r3; go_simp; all_goals with_reducible rfl)
    (try simp only [Act.put, List.setIfInBounds_toArray, List.set_cons_zero, List.set_cons_succ])
    refine take_want (i := 8) (v := ?v8m8) rfl (by kernel_rfl) (by kernel_rfl) (by kernel_rfl) (fun _ _ _ h => h) (by rfl) ?y8m8 (by assumption) ?r8m8
    case y8m8 => (intro w hSw; have r0 := hSw.cell 0; have r1 := hSw.cell 1; have r2 := hSw.cell 2; have r3 := hSw.cell 3; simp at r0 r1 r2 r3; go_simp; all_goals with_reducible rfl)
    (try simp only [Act.put, List.setIfInBounds_toArray, List.set_cons_zero, List.set_cons_succ])
    refine take_want (i := 9) (v := ?v9m9) rfl (by kernel_rfl) (by kernel_rfl) (by kernel_rfl) (fun _ _ _ h => h) (by rfl) ?y9m9 (by assumption) ?r9m9
    case y9m9 => (intro w hSw; have r0 := hSw.cell 0; have r1 := hSw.cell 1; have r2 := hSw.cell 2; have r3 := hSw.cell 3; simp at r0 r1 r2 r3; go_simp; all_goals with_reducible rfl)
    (try simp only [Act.put, List.setIfInBounds_toArray, List.set_cons_zero, List.set_cons_succ])
    refine wpAnyH_ready (rs := [5]) (by kernel_rfl) (by simp) ?_
    refine AllReadyH.cons rfl (fun K hK => ?_) AllReadyH.nil
    go_simp
    (go_at_call 26; refine HPK.out.mono ?_; rintro e V2 ⟨A5, c5, rfl, ho, hb⟩)
    have hg := grown_none hb
    have hs2 := hHeld.grown hg (by simp)
    have HO2 := Lib.hid (own_below HOd.out hb)
    have HG2 := Lib.hid (show ∀ y ∈ O, Pj w2 V2 y from fun y hy => (HGd.out y hy).keep hb)
    have HX2 := Lib.hid (HXd.out.keep hb)
    have HB2' := Lib.hid (bthen HBd.out hb)
    have HD2 := Lib.hid ho
    refine hK.out _ _ (hs2) (fun hHeld => ?_)
    clear hK K
    (try simp only [Act.put, List.setIfInBounds_toArray, List.set_cons_zero, List.set_cons_succ])
    clear hb ho hg hs2 HOd HGd HXd HBd
    refine take_want (i := 10) (v := ?v10m10) rfl (by kernel_rfl) (by kernel_rfl) (by kernel_rfl) (fun _ _ _ h => h) (by rfl) ?y10m10 (by assumption) ?r10m10
    case y10m10 => (intro w hSw; have r0 := hSw.cell 0; have r1 := hSw.cell 1; have r2 := hSw.cell 2; have r3 := hSw.cell 3; simp at r0 r1 r2 r3; go_simp; all_goals with_reducible rfl)
    (try simp only [Act.put, List.setIfInBounds_toArray, List.set_cons_zero, List.set_cons_succ])
    refine wpAnyH_ready (rs := [11]) (by kernel_rfl) (by simp) ?_
    refine AllReadyH.cons rfl (fun K hK => ?_) AllReadyH.nil
    go_simp
    obtain ⟨V3, hV3⟩ : ∃ V3, V3 = V2.alloc (.cells #[.int .i64 tt, .slice A5 p c5, .int .i64 u1, .slice G1 gn1 gc1] 45) := ⟨_, rfl⟩
    have hb3 : Below V2.heap.size V2 V3 := by rw [hV3]; exact bpush (Below.refl _ _) _
    have HNW := Lib.hid (show Row V3 (some ⟨V2.heap.size, 0, none⟩) [.int .i64 tt, .slice A5 p c5, .int .i64 u1, .slice G1 gn1 gc1] by rw [hV3]; exact Row.made rfl rfl)
    have hg := grown_none hb3
    have hs2 := hHeld.grown hg (by simp)
    have HO3 := Lib.hid (own_below HO2.out hb3)
    have HG3 := Lib.hid (show ∀ y ∈ O, Pj w2 V3 y from fun y hy => (HG2.out y hy).keep hb3)
    have HX3 := Lib.hid (HX2.out.keep hb3)
    have HB3' := Lib.hid (bthen HB2'.out hb3)
    have HD3 := Lib.hid (own_below HD2.out hb3)
    rw [← hV3]
    refine hK.out _ _ (hs2) (fun hHeld => ?_)
    clear hK K
    (try simp only [Act.put, List.setIfInBounds_toArray, List.set_cons_zero, List.set_cons_succ])
    clear hb3 hV3 hg hs2 HO2 HG2 HX2 HB2' HD2
    refine wpAnyH_ready (rs := [12]) (by kernel_rfl) (by simp) ?_
    refine AllReadyH.cons rfl (fun K hK => ?_) AllReadyH.nil
    refine step_append_at rfl _ _ 25 rfl w2.heap.size 45 i0 (.agg #[.int .i64 0, .slice none 0 0, .int .i64 0, .slice none 0 0]) 4 64 Try.underlying25 hi0 hz0 hz1 hz2 rfl (by decide) (.slice A' j c') j (cellsR O) (by first | rfl | (simp; done)) HO3.out ⟨V2.heap.size, 0, none⟩ 1 1 [.int .i64 tt, .slice A5 p c5, .int .i64 u1, .slice G1 gn1 gc1] (by first | rfl | (simp; done)) rfl HNW.out.at' (by intro u hu; simp at hu; rcases hu with rfl | rfl | rfl | rfl <;> rfl) (by unfold maxLen; omega) (by omega) HB3'.out.size ?_
    intro v5 w5 ho5 hg5 hd5
    have ho6 : w5.ownsRow w2.heap.size 45 4 v5 (j + 1) (cellsR (O ++ [(⟨A5, p, c5, G1, gn1, gc1⟩, ⟨tt, pickL L1 I, u1, X1⟩)])) := by rw [cellsR_app]; exact ho5
    obtain ⟨A7, c7, rfl⟩ := own_is ho6
    have hs5 : Blk w5 g8 45 #[.int .i64 t1, .slice D1 n1 c1, .int .i64 u1, .slice G1 gn1 gc1] := hHeld.grown hg5 HNE.out
    have HO5 := Lib.hid ho6
    have HG5 := Lib.hid hg5
    refine hK.out _ _ hs5 (fun hHeld => ?_)
    clear hK K
    (try simp only [Act.put, List.setIfInBounds_toArray, List.set_cons_zero, List.set_cons_succ])
    clear ho5 ho6 hg5 hd5 hs5
    refine take_want (i := 13) (v := ?v13m11) rfl (by kernel_rfl) (by kernel_rfl) (by kernel_rfl) (fun _ _ _ h => h) (by rfl) ?y13m11 (by assumption) ?r13m11
    case y13m11 => (intro w hSw; have r0 := hSw.cell 0; have r1 := hSw.cell 1; have r2 := hSw.cell 2; have r3 := hSw.cell 3; simp at r0 r1 r2 r3; go_simp; all_goals with_reducible rfl)
    (try simp only [Act.put, List.setIfInBounds_toArray, List.set_cons_zero, List.set_cons_succ])
    refine wpAnyH_done (by kernel_rfl) ?_ _
    have HPN := Lib.hid (show ∀ y ∈ O ++ [((⟨A5, p, c5, G1, gn1, gc1⟩, ⟨tt, pickL L1 I, u1, X1⟩) : RZ)], Pj w2 w5 y from fun y hy => by
      rcases List.mem_append.1 hy with hy | hy
      · exact (HG3.out y hy).app HO3.out HG5.out
      · rw [List.mem_singleton.1 hy]
        exact ⟨(own_less HD3.out (by have := HBX.out; exact this)).kept HG5.out (own_not_own HD3.out HO3.out (by decide)), by show p * 16 ≤ _; omega, HX0.out.rg, HX0.out.ng, HX0.out.cg, HX0.out.ag, HX0.out.sg⟩)
    have HMN := Lib.hid (show (O ++ [((⟨A5, p, c5, G1, gn1, gc1⟩, ⟨tt, pickL L1 I, u1, X1⟩) : RZ)]).map Prod.snd = (Z.take (j + 1)).map (fun z => projR g I z.2) by
      rw [List.map_append, HM.out, HTK.out]
      unfold projR
      rw [← HTT.out]; rfl)
    have HBN := Lib.hid (show Below w2.heap.size w2 w5 from HB3'.out.trans (grown_below4 HO3.out HG5.out HB3'.out.size))
    go_wp2_with fail
    go_roundw
    case rel => exact ⟨j + 1, A7, c7, _, rfl, by go_num, by omega, HO5, HPN, HMN, HBN⟩
    case measure => simp [intOf]; omega
end Go.Proofs.Ytkfcpmmiimpkbaa
