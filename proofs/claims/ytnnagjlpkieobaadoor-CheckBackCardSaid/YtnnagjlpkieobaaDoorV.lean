/- The law CheckLinear: its walk. -/
import Derived.Test.YtnnagjlpkieobaaDoorT
import Derived.Test.YtnnagjlpkieobaaDoorU
import Derived.Deep.RegionHeld3
import Derived.Deep.AppendLies
import Derived.StillTactics
import Derived.OwnWalk
namespace Go.Proofs.YtnnagjlpkieobaaDoor
open Go.RowKit
set_option linter.unusedSimpArgs false
set_option linter.unusedVariables false
theorem tab_on {W w1 : World} (hb : Below W.heap.size W w1) (h : Tab W) : Tab w1 := h.keep hb
theorem run_min_int4 {P : Program} {w : World} (ts : Array TypeId) (t : TypeId) (k : IntKind) (x y z u m : Int) (h : m = min (min (min x y) z) u) :
    (Builtin.min_ ts t #[.int k x, .int k y, .int k z, .int k u]).run P w = .ok (.int k m) w := by
  subst h
  simp [Builtin.min_, Builtin.min2, List.foldlM]
  repeat' split
  all_goals omega
theorem row_take {w : World} {A : Option Addr} {xs : List Int} (h : Row w A (xs.map (Value.int .u8))) (n : Nat) : Row w A ((xs.take n).map (Value.int .u8)) := by
  rcases h with h | ⟨b, off, rfl, hc⟩
  · have : xs = [] := by simpa using h
    subst this; exact .inl (by simp)
  · exact ((show Row w (some ⟨b, off, none⟩) (xs.map (Value.int .u8)) from .inr ⟨b, off, rfl, hc⟩).part n).1
theorem sum_b (A : Option Addr) (n c : Nat) (bs : List Int) (w : World) (hT : Tab w) (hA : Row w A (bs.map (Value.int .u8))) (hz : n = bs.length) (hn : n ≤ 1000000) (hb : bytes bs) :
    Calls Tryd.prog 15 #[.slice A n c] w fun e w' => e = .returned (.int .u32 (sumI bs)) ∧ Below w.heap.size w w' :=
  (sum_any A n c bs w hT hA hz (by omega) hb).mono fun e w' h => ⟨h.1, by rw [← h.2]; exact Below.refl _ _⟩
def SumIs (w : World) (A : Option Addr) (k : Nat) (s : Int) : Prop := ∃ bs : List Int, Row w A (bs.map (Value.int .u8)) ∧ k = bs.length ∧ k ≤ 1000000 ∧ bytes bs ∧ sumI bs = s
theorem SumIs.on {W w1 : World} {A : Option Addr} {k : Nat} {s : Int} (h : SumIs W A k s) (hb : Below W.heap.size W w1) : SumIs w1 A k s := by
  obtain ⟨bs, h1, h2, h3, h4, h5⟩ := h
  exact ⟨bs, row_on hb h1, h2, h3, h4, h5⟩
theorem sum_c {A : Option Addr} {k c : Nat} {s : Int} {w : World} (h : SumIs w A k s) (hT : Tab w) :
    Calls Tryd.prog 15 #[.slice A k c] w fun e w' => e = .returned (.int .u32 s) ∧ Below w.heap.size w w' := by
  obtain ⟨bs, h1, h2, h3, h4, rfl⟩ := h
  exact sum_b A k c bs w hT h1 h2 h3 h4
set_option maxRecDepth 100000 in
set_option maxHeartbeats 4000000 in
theorem linear_walk (A B C : Option Addr) (la ca lb cb lc cc : Nat) (X Y Z : List Int) (w : World) (hT : Tab w) (hA : Row w A (X.map (Value.int .u8))) (hB : Row w B (Y.map (Value.int .u8))) (hC : Row w C (Z.map (Value.int .u8)))
    (ha : la = X.length) (hb : lb = Y.length) (hc : lc = Z.length) (hca : la ≤ ca) (hcb : lb ≤ cb) (hcc : lc ≤ cc) (bA : bytes X) (bB : bytes Y) (bC : bytes Z) :
    Calls Tryd.prog 7 #[.slice A la ca, .slice B lb cb, .slice C lc cc] w fun e w' => e = .returned (.bool true) ∧ Below w.heap.size w w' := by
  obtain ⟨i0, hi0, hz0, hz1, hz2⟩ := info_parts Tryd.info5
  have HT := Lib.hid hT
  have HA := Lib.hid hA
  have HB := Lib.hid hB
  have HC := Lib.hid hC
  have HLA := Lib.hid ha
  have HLB := Lib.hid hb
  have HLC := Lib.hid hc
  have HBA := Lib.hid bA
  have HBB := Lib.hid bB
  have HBC := Lib.hid bC
  clear hT hA hB hC ha hb hc bA bB bC
  obtain ⟨N, hN⟩ : ∃ N : Nat, N = min (min la lb) (min lc 400) := ⟨_, rfl⟩
  have hN4 : N ≤ 400 ∧ N ≤ la ∧ N ≤ lb ∧ N ≤ lc := by omega
  obtain ⟨hN0, hN1, hN2, hN3⟩ := hN4
  have hmin : min (min (min (la : Int) lb) lc) 400 = (N : Int) := by omega
  clear hN
  have hrun := run_min_int4 (P := Tryd.prog) (w := w) #[3, 3, 3, 3] 3 .i64 (la : Int) (lb : Int) (lc : Int) 400 (N : Int) hmin.symm
  clear hmin
  go_enter Tryd.func7, Tryd.ntmps7
  go_wp2_with fail
  clear hrun
  go_loopw [8, 9] (fun v i wr => ∃ k : Nat, k ≤ N ∧ i = .int .i64 k ∧ Hid (wr.ownsRow w.heap.size 5 1 v k ((xor3 (X.take k) (Y.take k) (Z.take k)).map (Value.int .u8))) ∧ Hid (Below w.heap.size w wr)) (fun _ i _ => N - (intOf i).toNat)
  case atStart => exact ⟨0, by omega, rfl, Lib.hid (World.ownsRow_nil _ _ _ _), Lib.hid (Below.refl _ _)⟩
  case round =>
    obtain ⟨k, hk, rfl, HO, HBW⟩ := hrel
    by_cases hlt : k < N
    · have hkA : k < X.length := by have := HLA.out; omega
      have hkB : k < Y.length := by have := HLB.out; omega
      have hkC : k < Z.length := by have := HLC.out; omega
      obtain ⟨b1, o1, hA', c1⟩ := HA.out.cell hkA
      obtain ⟨b2, o2, hB', c2⟩ := HB.out.cell hkB
      obtain ⟨b3, o3, hC', c3⟩ := HC.out.cell hkC
      obtain ⟨x, hx⟩ : ∃ x : Nat, x = X[k].toNat := ⟨_, rfl⟩
      obtain ⟨y, hy⟩ : ∃ y : Nat, y = Y[k].toNat := ⟨_, rfl⟩
      obtain ⟨z, hz⟩ : ∃ z : Nat, z = Z[k].toNat := ⟨_, rfl⟩
      have hxb := HBA.out X[k] (List.getElem_mem hkA)
      have hyb := HBB.out Y[k] (List.getElem_mem hkB)
      have hzb := HBC.out Z[k] (List.getElem_mem hkC)
      have ex : X[k] = (x : Int) := by rw [hx]; omega
      have ey : Y[k] = (y : Int) := by rw [hy]; omega
      have ez : Z[k] = (z : Int) := by rw [hz]; omega
      have hx9 : x < 256 := by omega
      have hy9 : y < 256 := by omega
      have hz9 : z < 256 := by omega
      rw [ex] at c1
      rw [ey] at c2
      rw [ez] at c3
      obtain ⟨q, hq⟩ : ∃ q : Nat, q = x ^^^ y ^^^ z := ⟨_, rfl⟩
      have hxy : x ^^^ y < 256 := Nat.xor_lt_two_pow (n := 8) (by omega) (by omega)
      obtain ⟨p, hp⟩ : ∃ p : Nat, p = x ^^^ y := ⟨_, rfl⟩
      have hq9 : q < 256 := by rw [hq]; exact Nat.xor_lt_two_pow (n := 8) (by omega) (by omega)
      have e1 : bits .xor .u8 (x : Int) (y : Int) = (p : Int) := by rw [hp]; exact u8_xor_nat x y hx9 hy9
      have e2 : bits .xor .u8 (p : Int) (z : Int) = (q : Int) := by rw [hp, hq]; exact u8_xor_nat (x ^^^ y) z hxy hz9
      have hstep : xor3 (X.take (k + 1)) (Y.take (k + 1)) (Z.take (k + 1)) = xor3 (X.take k) (Y.take k) (Z.take k) ++ [(q : Int)] := by
        rw [xor3_take X Y Z k hkA hkB hkC, ← hx, ← hy, ← hz, hq]
      have HSTEP := Lib.hid hstep
      have l1 : b1 < w.heap.size := lt_of_cell c1
      have l2 : b2 < w.heap.size := lt_of_cell c2
      have l3 : b3 < w.heap.size := lt_of_cell c3
      have d1 := cell_on HBW.out c1
      have d2 := cell_on HBW.out c2
      have d3 := cell_on HBW.out c3
      subst hA' hB' hC'
      have hszd : w.heap.size ≤ wr.heap.size := HBW.out.size
      have hown := HO.out
      have a1 : u8.ownBlock ≠ some b1 := fun e => by have := (hown.lt _ e).1; omega
      have a2 : u8.ownBlock ≠ some b2 := fun e => by have := (hown.lt _ e).1; omega
      have a3 : u8.ownBlock ≠ some b3 := fun e => by have := (hown.lt _ e).1; omega
      have hki : (k : Int) < (N : Int) := by omega
      have k0 : (0 : Int) ≤ (k : Int) := by omega
      have ka : (k : Int) < (la : Int) := by omega
      have kb : (k : Int) < (lb : Int) := by omega
      have kc : (k : Int) < (lc : Int) := by omega
      have HX3 := Lib.hid hx; have HY3 := Lib.hid hy; have HZ3 := Lib.hid hz
      have HQ3 := Lib.hid hq; have HP3 := Lib.hid hp
      have HOW := Lib.hid hown
      clear hx hy hz hxb hyb hzb ex ey ez c1 c2 c3 hq hp hstep hown HX3 HY3 HZ3 HQ3 HP3 hxy
      go_wp2_with fail
      go_region_held3 (fun w' => w'.cell? ⟨b1, o1 + k, none⟩ = some (.int .u8 (x : Int)) ∧ w'.cell? ⟨b2, o2 + k, none⟩ = some (.int .u8 (y : Int)) ∧ w'.cell? ⟨b3, o3 + k, none⟩ = some (.int .u8 (z : Int)))
        (first
          | go_keep
          | (go_split_ands
             refine ⟨?_, ?_, ?_⟩
             · (rw [hgrow.cell_far _ (by simp; omega) (Ne.symm a1)]; assumption)
             · (rw [hgrow.cell_far _ (by simp; omega) (Ne.symm a2)]; assumption)
             · (rw [hgrow.cell_far _ (by simp; omega) (Ne.symm a3)]; assumption)))
        ((refine step_append_lies _ (by rfl) _ _ _ (by rfl) w.heap.size 5 i0 _ 1 1 Tryd.underlying22 hi0 hz0 hz1 hz2 rfl (by omega) u8 k _ (by rfl) ((HOW.out.alloc _).drew)
            ⟨wr.heap.size, 0, none⟩ 1 1 [.int .u8 (q : Int)] (by rfl) (by rfl) (World.news_of_block (cs := #[.int .u8 (q : Int)]) (t := 5) (fr := (0, 0)) (heap_alloc_new wr _)) (by simp [Value.oneCell'])
            (by omega) (by unfold maxLen; omega) (by omega) (by simp; omega) (wr.heap.size + 1) (by simp) ?_; intro gg cap2 w3 hown3 hgrow hat hlt9))
      have HO3 := Lib.hid (show w3.ownsRow w.heap.size 5 1 (.slice (some ⟨gg, 0, none⟩) (k + 1) cap2) (k + 1) ((xor3 (X.take (k + 1)) (Y.take (k + 1)) (Z.take (k + 1))).map (Value.int .u8)) by rw [HSTEP.out, List.map_append]; exact hown3)
      have HB3 := Lib.hid (show Below w.heap.size w w3 from by first | exact (bpush HBW.out _).grown hgrow (by simp; omega) (fun j e => (HOW.out.lt _ e).1) | exact (below_drewN (bpush HBW.out _) _).grown hgrow (by simp; omega) (fun j e => (HOW.out.lt _ e).1))
      clear hown3 hgrow hat hlt9
      go_wp2
      go_roundw
      case rel => exact ⟨k + 1, by omega, by go_num, HO3, HB3⟩
      case measure => simp [intOf]; omega
    · have hkN : k = N := by omega
      subst hkN
      obtain ⟨A', c', rfl, hr', hc', _⟩ := bytes_slice HO.out
      have HR := Lib.hid hr'
      have HC' := Lib.hid hc'
      have HTw := Lib.hid (HT.out.keep HBW.out)
      have hle : xor3 (X.take k) (Y.take k) (Z.take k) = xor3 (X.take k) (Y.take k) (Z.take k) := rfl
      have hlen : k = (xor3 (X.take k) (Y.take k) (Z.take k)).length := by
        have := HLA.out; have := HLB.out; have := HLC.out
        rw [xor3_length _ _ _ (by simp; omega) (by simp; omega)]; simp; omega
      have HLEN := Lib.hid hlen
      have hRA := (row_take HA.out k).keep (Nat.le_refl _) HBW.out
      have hRB := (row_take HB.out k).keep (Nat.le_refl _) HBW.out
      have hRC := (row_take HC.out k).keep (Nat.le_refl _) HBW.out
      clear hr' hc' hle hlen
      have ka : (k : Int) ≤ (la : Int) := by omega
      have kb : (k : Int) ≤ (lb : Int) := by omega
      have kc : (k : Int) ≤ (lc : Int) := by omega
      have ka2 : (k : Int) ≤ (ca : Int) := by omega
      have kb2 : (k : Int) ≤ (cb : Int) := by omega
      have kc2 : (k : Int) ≤ (cc : Int) := by omega
      have k0 : (0 : Int) ≤ (k : Int) := by omega
      clear HA HB HC HO HT
      have hB1 : bytes (X.take k) := fun x hx => HBA.out x (List.mem_of_mem_take hx)
      have hB2 : bytes (Y.take k) := fun x hx => HBB.out x (List.mem_of_mem_take hx)
      have hB3 : bytes (Z.take k) := fun x hx => HBC.out x (List.mem_of_mem_take hx)
      have hB4 := xor3_bytes _ _ _ hB1 hB2 hB3
      have L1 : k = (X.take k).length := by have := HLA.out; simp; omega
      have L2 : k = (Y.take k).length := by have := HLB.out; simp; omega
      have L3 : k = (Z.take k).length := by have := HLC.out; simp; omega
      have hsum := sum_lin (xs := X.take k) (ys := Y.take k) (zs := Z.take k) (L1.symm.trans L2) (L2.symm.trans L3)
      obtain ⟨s0, hs0⟩ : ∃ s, s = sumN (xor3 (X.take k) (Y.take k) (Z.take k)) := ⟨_, rfl⟩
      obtain ⟨s1, hs1⟩ : ∃ s, s = sumN (X.take k) := ⟨_, rfl⟩
      obtain ⟨s2, hs2⟩ : ∃ s, s = sumN (Y.take k) := ⟨_, rfl⟩
      obtain ⟨s3, hs3⟩ : ∃ s, s = sumN (Z.take k) := ⟨_, rfl⟩
      have hs19 : s1 < 4294967296 := by rw [hs1]; unfold sumN; omega
      have hs29 : s2 < 4294967296 := by rw [hs2]; unfold sumN; omega
      have hs39 : s3 < 4294967296 := by rw [hs3]; unfold sumN; omega
      have hsx : s0 = s1 ^^^ s2 ^^^ s3 := by rw [hs0, hs1, hs2, hs3]; exact hsum
      obtain ⟨s4, hs4⟩ : ∃ s, s = s1 ^^^ s2 := ⟨_, rfl⟩
      have e1 : bits .xor .u32 (s1 : Int) (s2 : Int) = (s4 : Int) := by rw [hs4]; exact u32_xor_nat s1 s2 hs19 hs29
      have e2 : bits .xor .u32 (s4 : Int) (s3 : Int) = (s0 : Int) := by
        rw [hs4, hsx]; exact u32_xor_nat (s1 ^^^ s2) s3 (Nat.xor_lt_two_pow (n := 32) hs19 hs29) hs39
      have S0 := Lib.hid (show sumI (xor3 (X.take k) (Y.take k) (Z.take k)) = (s0 : Int) by rw [hs0]; rfl)
      have S1 := Lib.hid (show sumI (X.take k) = (s1 : Int) by rw [hs1]; rfl)
      have S2 := Lib.hid (show sumI (Y.take k) = (s2 : Int) by rw [hs2]; rfl)
      have S3 := Lib.hid (show sumI (Z.take k) = (s3 : Int) by rw [hs3]; rfl)
      have HB1 := Lib.hid hB1
      have HB2 := Lib.hid hB2
      have HB3 := Lib.hid hB3
      have HB4 := Lib.hid hB4
      have HL1 := Lib.hid L1
      have HL2 := Lib.hid L2
      have HL3 := Lib.hid L3
      clear hB1 hB2 hB3 hB4 L1 L2 L3 hsum hs0 hs1 hs2 hs3 hsx hs4
      have hr0 := HR.out
      have hT0 := HTw.out
      have HBW2 : Below wr.heap.size wr wr := Below.refl _ _
      obtain ⟨XL, hXL⟩ : ∃ l, l = X.take k := ⟨_, rfl⟩
      obtain ⟨YL, hYL⟩ : ∃ l, l = Y.take k := ⟨_, rfl⟩
      obtain ⟨ZL, hZL⟩ : ∃ l, l = Z.take k := ⟨_, rfl⟩
      obtain ⟨DL, hDL⟩ : ∃ l, l = xor3 (X.take k) (Y.take k) (Z.take k) := ⟨_, rfl⟩
      rw [← hDL] at hr0 S0 HB4 HLEN
      rw [← hXL] at hRA S1 HB1 HL1
      rw [← hYL] at hRB S2 HB2 HL2
      rw [← hZL] at hRC S3 HB3 HL3
      clear hXL hYL hZL hDL HR HTw HBA HBB HBC HLA HLB HLC hk hlt
      go_wp2_with fail
      have T0 : SumIs wr A' k s0 := ⟨DL, hr0, HLEN.out, by omega, HB4.out, S0.out⟩
      have T1 : SumIs wr A k s1 := ⟨XL, hRA, HL1.out, by omega, HB1.out, S1.out⟩
      have T2 : SumIs wr B k s2 := ⟨YL, hRB, HL2.out, by omega, HB2.out, S2.out⟩
      have T3 : SumIs wr C k s3 := ⟨ZL, hRC, HL3.out, by omega, HB3.out, S3.out⟩
      clear hr0 hRA hRB hRC HLEN HL1 HL2 HL3 HB1 HB2 HB3 HB4 S0 S1 S2 S3
      go_region_held3 (fun w' => Tab w' ∧ SumIs w' A' k s0 ∧ SumIs w' A k s1 ∧ SumIs w' B k s2 ∧ SumIs w' C k s3 ∧ Below wr.heap.size wr w')
        (first
          | (go_split_ands
             exact ⟨tab_on hb (by assumption), SumIs.on (by assumption) hb, SumIs.on (by assumption) hb, SumIs.on (by assumption) hb, SumIs.on (by assumption) hb, below_on hb (by assumption)⟩)
          | exact ⟨hT0, T0, T1, T2, T3, (Below.refl _ _).drew⟩)
        (first
          | (go_at_call 8; refine (alive_any _ (by go_split_ands; assumption)).mono ?_; rintro e w6 ⟨rfl, hb⟩)
          | (go_at_call 15; refine (sum_c (by go_split_ands; assumption) (by go_split_ands; assumption)).mono ?_; rintro e w6 ⟨rfl, hb⟩))
      go_split_ands
      go_wp2
      go_ret
      exact ⟨rfl, bthen HBW.out (by assumption)⟩
end Go.Proofs.YtnnagjlpkieobaaDoor
