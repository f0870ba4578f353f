/- The live question (10); what the laid variables give. -/
import Derived.Test.YtmmeekmiildliaaGreatDoorIQ
import Derived.Test.YtmmeekmiildliaaGreatDoorIO
import Derived.Test.YtmmeekmiildliaaGreatDoorIP
import Derived.Test.YtmmeekmiildliaaGreatDoorML
import Derived.LaidLaws
import Derived.LaidMore
import Derived.Lay
import Derived.Lib.LaidTab
namespace Go.Proofs.YtmmeekmiildliaaGreatDoor
open Go.RowKit
set_option linter.unusedSimpArgs false
set_option linter.unusedVariables false
def laids : List (String × DataW Unit) := Rows.ingestChargesRow.laid
theorem tab_of_laid {W : World} (h : laidMet Tryz.prog laids W) : Tab W := by
  obtain ⟨ps, h, hap⟩ := h
  obtain ⟨_, _, _, _, _, _, _, _, _, _, h, _⟩ := h
  obtain ⟨_, _, _, _, _, _, _, _, _, _, h, _⟩ := h
  obtain ⟨g, t, cs, fuel, p, q, hg, ht, hv, hd, _, _⟩ := h
  obtain rfl := Option.some.inj ((show Tryz.prog.globalNamed "internal/strconv.uint64pow10" = some 0 by kernel_rfl).symm.trans hg)
  obtain ⟨t0, ht0⟩ : ∃ t0, (Tryz.prog.globals[0]?).map (·.type) = some t0 := ⟨_, ht⟩
  have e : cs.toList = Lib.pow10Tab.map fun z => Value.int .u64 z := by
    obtain rfl := Option.some.inj ((show (Tryz.prog.globals[0]?).map (·.type) = some 176 by kernel_rfl).symm.trans ht)
    exact Lib.cells_of_tab (n := 20) (e := 154) (by kernel_rfl) (by kernel_rfl) (by kernel_rfl) (by kernel_rfl) (show DataW.trod _ _ _ _ _ _ _ _ _ = some (Lib.tabData .u64 Lib.pow10Tab, p) from hd.trans (by rw [show (Rows.laid_internal_strconv_uint64pow10 : DataW Unit) = Lib.tabData .u64 Lib.pow10Tab from rfl]))
  show World.var? _ _ _ = _
  rw [hv, ← e]
instance (i b : Nat) : Decidable (okN i b) := by unfold okN; infer_instance
instance (s : ByteArray) : Decidable (∀ (i : Nat) (h : i < s.size), okN i (s[i]'h).toNat) := Nat.decidableBallLT s.size (fun i h => okN i (s[i]'h).toNat)
instance (s : ByteArray) : Decidable (s ∈ wordsL) := @List.instDecidableMemOfLawfulBEq ByteArray instBEqOfDecidableEq inferInstance _ _
instance (s : ByteArray) : Decidable (nameP s) := by unfold nameP; infer_instance
instance (s : ByteArray) : Decidable (valueP s) := by unfold valueP; infer_instance
instance (s : ByteArray) : Decidable (valP s) := by unfold valP; infer_instance
theorem apart_of {L : List ByteArray} (h : ∀ j (h : j < L.length), ∀ i (hij : i < j), L[i]'(Nat.lt_trans hij h) ≠ L[j]) : apartP L := fun i j hij hj => h j hj i hij
theorem right_am : rightP [⟨#[97]⟩] [⟨#[109]⟩] := ⟨by decide, by decide, by decide, by decide +kernel, apart_of (by decide +kernel)⟩
theorem check_v (t n : Int) (ht : 0 ≤ t ∧ t ≤ 1099511627776) (hn : ¬ greatZ n) (s : ByteArray) (hs : valP s) : CheckIs [⟨#[97]⟩] [⟨#[109]⟩] [s] [n] t 0 := by
  refine .inr (.inr ⟨rfl, rfl, .inr (.inr ⟨fun u hu => ?_, fun x hx => ?_, .inr (.inr ⟨ht.1, ht.2, rfl⟩)⟩)⟩)
  · rw [List.mem_singleton.1 hu]; exact hs
  · rw [List.mem_singleton.1 hx]; exact hn
theorem add_one {w : World} {B bx mb nn : Nat} {V : List RV} (h : Ix w B bx mb 10 [⟨#[97]⟩] [⟨#[109]⟩] V nn) (hnn : nn ≤ 100000) (hT : Tab w) (t n : Int) (ht : 0 ≤ t ∧ t ≤ 1099511627776) (hn : ¬ greatZ n) (wa : World) (hwa : wa = (w.alloc (.cells #[.string ⟨#[118]⟩] 9)).alloc (.cells #[.int .i64 n] 3)) :
    Calls Tryz.prog 18 #[.pointer (some ⟨bx, 0, none⟩), .agg #[.int .i64 t, .slice (some ⟨w.heap.size, 0, none⟩) 1 1, .slice (some ⟨w.heap.size + 1, 0, none⟩) 1 1]] wa (AddPost wa B bx mb nn 10 [⟨#[97]⟩] [⟨#[109]⟩] V (addR V 0 (rowX t 10 [⟨#[118]⟩] [n]))) := by
  have hb : Below w.heap.size w wa := by rw [hwa]; exact bpush (bpush (Below.refl _ _) _) _
  exact add_any B bx mb nn 10 [⟨#[97]⟩] [⟨#[109]⟩] V _ _ 1 1 1 1 t [⟨#[118]⟩] [n] wa (h.keep hb) hnn (hT.keep hb)
    (by rw [hwa]; exact (Row.made rfl rfl : Row (w.alloc (.cells #[.string ⟨#[118]⟩] 9)) (some ⟨w.heap.size, 0, none⟩) (texts [⟨#[118]⟩])).keep (Nat.le_refl _) (bpush (Below.refl _ _) _))
    (by rw [hwa]; exact Row.made (by simp) rfl) rfl rfl (by decide) (by omega) (fun h => by cases h) (by omega) (by omega) 0 (check_v t n ht hn ⟨#[118]⟩ (by decide +kernel))
def row1 : RV := ⟨10, [⟨#[118]⟩], 1, [(4, 4, 4)]⟩
def row2 : RV := ⟨10, [⟨#[118]⟩], 2, [(3, -1, 4)]⟩
theorem add_first : addR [] 0 (rowX 13 10 [⟨#[118]⟩] [4]) = (0, [row1]) := by kernel_rfl
theorem add_second : addR [row1] 0 (rowX 18 10 [⟨#[118]⟩] [-1]) = (0, [row2]) := by kernel_rfl
theorem chg_one : chg 0 [3] [-4] 1 0 = ((1, [7]), 0) := by kernel_rfl
theorem charge_one (A E : Option Addr) (c d : Nat) (w wa : World) (hwa : wa = ((w.alloc (.cells #[.int .i64 3] 3)).alloc (.cells #[.string ⟨#[]⟩] 9)).alloc (.cells #[.int .i64 (-4)] 3)) :
    Calls Tryz.prog 11 #[.agg #[.slice A 1 c, .slice E 1 d], .agg #[.int .i64 0, .slice (some ⟨w.heap.size, 0, none⟩) 1 1], .agg #[.int .i64 1, .slice (some ⟨w.heap.size + 1, 0, none⟩) 1 1, .slice (some ⟨w.heap.size + 1 + 1, 0, none⟩) 1 1]] wa (ChgPost wa ((1, [7]), 0)) := by
  have h := charge_any A E (some ⟨w.heap.size, 0, none⟩) (some ⟨w.heap.size + 1, 0, none⟩) (some ⟨w.heap.size + 1 + 1, 0, none⟩) 1 c 1 d 1 1 1 1 1 1 0 1 [⟨#[97]⟩] [⟨#[109]⟩] [⟨#[]⟩] [-4] [3] wa
    (by rw [hwa]; exact (Row.made rfl rfl : Row (w.alloc (.cells #[.int .i64 3] 3)) (some ⟨w.heap.size, 0, none⟩) (intsV [3])).keep (Nat.le_refl _) (bpush (bpush (Below.refl _ _) _) _))
    (by rw [hwa]; exact (Row.made (by simp) rfl : Row ((w.alloc (.cells #[.int .i64 3] 3)).alloc (.cells #[.string ⟨#[]⟩] 9)) (some ⟨w.heap.size + 1, 0, none⟩) (texts [⟨#[]⟩])).keep (Nat.le_refl _) (bpush (Below.refl _ _) _))
    (by rw [hwa]; exact Row.made (by simp) rfl) rfl rfl rfl rfl rfl (by decide) (by omega) (fun h => by cases h) (by omega) (by omega) (by omega) (by omega) 0 (check_v 1 (-4) (by omega) (by unfold greatZ; omega) ⟨#[]⟩ (by decide +kernel))
  rwa [chg_one] at h
set_option maxRecDepth 100000 in
set_option maxHeartbeats 16000000 in
theorem alive_any (w : World) (hT : Tab w) : Calls Tryz.prog 10 #[] w fun e w' => e = .returned (.bool true) ∧ Below w.heap.size w w' := by
  obtain ⟨W1, hW1⟩ : ∃ W1, W1 = ((w.alloc (.cells #[.string ⟨#[97]⟩] 9)).alloc (.cells #[.string ⟨#[109]⟩] 9)).alloc (.cells #[.slice (some ⟨w.heap.size, 0, none⟩) 1 1, .slice (some ⟨w.heap.size + 1, 0, none⟩) 1 1] 24) := ⟨_, rfl⟩
  have hb1 : Below w.heap.size w W1 := by rw [hW1]; exact bpush (bpush (bpush (Below.refl _ _) _) _) _
  have ra : Row W1 (some ⟨w.heap.size, 0, none⟩) (texts [⟨#[97]⟩]) := by rw [hW1]; exact (Row.made rfl rfl : Row (w.alloc (.cells #[.string ⟨#[97]⟩] 9)) (some ⟨w.heap.size, 0, none⟩) (texts [⟨#[97]⟩])).keep (Nat.le_refl _) (bpush (bpush (Below.refl _ _) _) _)
  have rm : Row W1 (some ⟨w.heap.size + 1, 0, none⟩) (texts [⟨#[109]⟩]) := by rw [hW1]; exact (Row.made (by simp) rfl : Row ((w.alloc (.cells #[.string ⟨#[97]⟩] 9)).alloc (.cells #[.string ⟨#[109]⟩] 9)) (some ⟨w.heap.size + 1, 0, none⟩) (texts [⟨#[109]⟩])).keep (Nat.le_refl _) (bpush (Below.refl _ _) _)
  have s0 : W1.cell? ⟨w.heap.size + 1 + 1, 0, none⟩ = some (.slice (some ⟨w.heap.size, 0, none⟩) 1 1) := by rw [hW1]; exact cell_made (by simp) rfl
  have s1 : W1.cell? ⟨w.heap.size + 1 + 1, 1, none⟩ = some (.slice (some ⟨w.heap.size + 1, 0, none⟩) 1 1) := by rw [hW1]; exact cell_made (by simp) rfl
  have HN := Lib.hid (new_any _ _ 1 1 1 1 10 [⟨#[97]⟩] [⟨#[109]⟩] W1 ra rm rfl rfl (by omega) (by omega) (fun h => by cases h) (fun h => by cases h) (by decide) (by decide) (by omega) (by omega) 0 (.inr (.inr ⟨right_am, by decide, rfl⟩)))
  have HT := Lib.hid (hT.keep hb1)
  have HB1 := Lib.hid hb1
  have HSZ := Lib.hid (show W1.heap.size = w.heap.size + 3 by rw [hW1]; simp)
  have HW1 := Lib.hid hW1
  clear hT hb1 hW1 ra rm
  go_enter Tryz.func10, Tryz.ntmps10
  go_upto_region 2 with fail
  rw [← HW1.out]
  clear HW1
  go_upto_region 3 with (go_at_call 14; refine HN.out.mono ?_; rintro e w2 ⟨h, hb⟩; obtain ⟨-, bx, mb, rfl, hix⟩ := h.resolve_left (fun h => absurd rfl h.1))
  have HI := Lib.hid hix
  have HB2 := Lib.hid hb
  have HTW := HT
  have HS0 := Lib.hid s0
  have HS1 := Lib.hid s1
  clear s0 s1
  have HT := Lib.hid (HT.out.keep hb)
  have hlx := HI.out.lx
  have hlm := HI.out.lm
  have hz2 := hb.size
  clear hix hb HN
  go_upto_region 6 with (go_at_call 18; refine (add_one HI.out (by omega) HT.out 13 4 (by omega) (by unfold greatZ; omega) _ rfl).mono ?_; rw [add_first]; rintro e w3 ⟨rfl, hi3, hk3⟩)
  have hb23 : Below W1.heap.size w2 w3 := ((bpush (bpush (Below.refl _ _) _) _ : Below w2.heap.size w2 ((w2.alloc (.cells #[.string ⟨#[118]⟩] 9)).alloc (.cells #[.int .i64 4] 3))).mono hz2).trans (hk3.below hlx hlm (by simp; omega))
  have HI := Lib.hid (show Ix w3 W1.heap.size bx mb 10 [⟨#[97]⟩] [⟨#[109]⟩] [row1] 1 from hi3)
  have HB3 := Lib.hid (HB2.out.trans hb23)
  have HT := Lib.hid (HTW.out.keep HB3.out)
  have hz3 := HB3.out.size
  clear hb23 hi3 hk3
  go_upto_region 7 with (go_at_call 18; refine (add_one HI.out (by omega) HT.out 18 (-1) (by omega) (by unfold greatZ; omega) _ rfl).mono ?_; rw [add_second]; rintro e w4 ⟨rfl, hi4, hk4⟩)
  have hb34 : Below W1.heap.size w3 w4 := ((bpush (bpush (Below.refl _ _) _) _ : Below w3.heap.size w3 ((w3.alloc (.cells #[.string ⟨#[118]⟩] 9)).alloc (.cells #[.int .i64 (-1)] 3))).mono hz3).trans (hk4.below hlx hlm (by simp; omega))
  have HI := Lib.hid (show Ix w4 W1.heap.size bx mb 10 [⟨#[97]⟩] [⟨#[109]⟩] [row2] 2 from hi4)
  have HB4 := Lib.hid (HB3.out.trans hb34)
  have hz4 := HB4.out.size
  clear hb34 hi4 hk4 HT
  go_upto_region 8 with (go_at_call 17; refine (rows_any HI.out (by omega)).mono ?_; rintro e w5 ⟨A, c, Y, rfl, hrow, hY, hYo, hb5⟩)
  obtain ⟨y, rfl⟩ : ∃ y, Y = [y] := by
    rcases Y with _ | ⟨y, _ | ⟨z, Y⟩⟩
    · simp at hY
    · exact ⟨y, rfl⟩
    · simp at hY
  have hy2 : y.2 = row2 := by simpa using hY
  have HI := Lib.hid (HI.out.keep hb5)
  have HB5 := Lib.hid (HB4.out.trans (hb5.mono hz4))
  have s0 := cell_on HB5.out HS0.out
  have s1 := cell_on HB5.out HS1.out
  have hoy := hYo y List.mem_cons_self
  obtain ⟨-, A', c', e', hr', -⟩ := own_sliceR hrow
  cases e'
  have hgy := hoy.good
  have hrc : RowsC w5 A [y] := ⟨hr', fun z hz => by rw [List.mem_singleton.1 hz]; exact hgy⟩
  obtain ⟨b, off, rfl, k0, k1, k2, k3⟩ := hrc.at (k := 0) (Nat.zero_lt_one)
  have hng : y.1.gn = 1 := by rw [hgy.ng, hy2]; rfl
  have hrg := hgy.rg
  rw [hy2] at hrg
  obtain ⟨bg, og, hG, m0⟩ : ∃ bg og, y.1.G = some ⟨bg, og, none⟩ ∧ w5.cell? ⟨bg, og, none⟩ = some (.int .i64 3) := by
    rcases hrg with h0 | ⟨bg, og, hG, hcg⟩
    · cases h0
    · exact ⟨bg, og, hG, hcg 0 _ rfl⟩
  simp only [List.getElem_cons_zero, hy2, hng, hG, Nat.zero_mul, Nat.add_zero] at k0 k2 k3
  have K0 := Lib.hid (show w5.cell? ⟨b, off, none⟩ = some (.int .i64 10) from k0)
  have K2 := Lib.hid (show w5.cell? ⟨b, off + 2, none⟩ = some (.int .i64 2) from k2)
  have K3 := Lib.hid k3
  have M0 := Lib.hid m0
  obtain ⟨gc, hgc⟩ : ∃ gc, gc = y.1.gc := ⟨_, rfl⟩
  rw [← hgc] at K3
  clear hrow hY hYo hb5 hoy hr' hgy hrc k0 k1 k2 k3 hng hrg hG m0 hgc hy2
  go_upto_region 9 with (go_at_call 11; refine (charge_one _ _ 1 1 w5 _ rfl).mono ?_; rintro e w6 ⟨A6, n6, c6, rfl, hn6, hc6, ha6, hr6, hb6⟩)
  obtain rfl : n6 = 1 := hn6
  have hb56 : Below w5.heap.size w5 w6 := (bpush (bpush (bpush (Below.refl _ _) _) _) _ : Below w5.heap.size w5 (((w5.alloc (.cells #[.int .i64 3] 3)).alloc (.cells #[.string ⟨#[]⟩] 9)).alloc (.cells #[.int .i64 (-4)] 3))).trans (hb6.mono (by simp; omega))
  obtain ⟨W7, hW7⟩ : ∃ W7, W7 = w6.alloc (.cells #[.int .i64 1, .slice A6 1 c6] 27) := ⟨_, rfl⟩
  have hb67 : Below w6.heap.size w6 W7 := by rw [hW7]; exact bpush (Below.refl _ _) _
  have hb57 := bthen hb56 hb67
  have HI := Lib.hid (HI.out.keep hb57)
  have HB7 := Lib.hid (bthen HB1.out (HB5.out.trans (hb57.mono HB5.out.size)))
  have k0 := cell_on hb57 K0.out
  have k2 := cell_on hb57 K2.out
  have k3 := cell_on hb57 K3.out
  have m0 := cell_on hb57 M0.out
  have x1 : W7.cell? ⟨w6.heap.size, 1, none⟩ = some (.slice A6 1 c6) := by rw [hW7]; exact cell_made rfl rfl
  obtain ⟨b6, o6, rfl, z0⟩ : ∃ b o, A6 = some ⟨b, o, none⟩ ∧ W7.cell? ⟨b, o, none⟩ = some (.int .i64 7) := by
    rcases hr6 with h0 | ⟨b, o, hA, hc⟩
    · cases h0
    · exact ⟨b, o, hA, cell_on hb67 (hc 0 _ rfl)⟩
  rw [← hW7]
  clear hW7 hb67 hb57 hb56 hc6 ha6 hr6 hb6 s0 s1 K0 K2 K3 M0 HB5 HB4 HB3
  go_wp2_with (go_at_call 22; refine (count_any HI.out).mono ?_; rintro e w8 ⟨rfl, rfl⟩)
  go_ret
  exact ⟨rfl, HB7.out⟩
end Go.Proofs.YtmmeekmiildliaaGreatDoor
