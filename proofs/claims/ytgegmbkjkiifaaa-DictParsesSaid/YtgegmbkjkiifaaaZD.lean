/- The document's reader: a text. -/
import Derived.Test.YtgegmbkjkiifaaaZC
namespace Go.Proofs.Ytgegmbkjkiifaaa
open Go.RowKit
set_option linter.unusedSimpArgs false
set_option linter.unusedVariables false
set_option maxRecDepth 100000 in
set_option maxHeartbeats 1000000 in
theorem reftext_bad1 (mb : Nat) (A : Option Addr) (n c I : Nat) (bad : Bool) (bs : List Int) (hi : Int) (w : World) (hB : Bx w mb (.slice A n c) I bad) (hA : RowX w mb A bs) (hn : n ≤ 1000000) (hz : n = bs.length) (hI : I ≤ n) (hb : bytes bs) (v : Int) (l : Nat) (hp : numP (bs.drop I) = (v, l)) (hbad : l = 0 ∨ v < 0 ∨ hi < v) :
    Calls Try.prog 57 #[.pointer (some ⟨mb, 0, none⟩), .int .i64 hi] w (RefPost w mb (.slice A n c) (.string ByteArray.empty) 11 I true) := by
  have HZ := Lib.hid hz
  have HB := Lib.hid hb
  have HP := Lib.hid hp
  have HBX := Lib.hid hB
  have HA := Lib.hid hA
  obtain ⟨b0, b1, b2, b3⟩ := hB
  clear hz hb hp b3 hA
  go_enter Try.func57, Try.ntmps57
  go_wp2_with fail
  refine (refrint_bad mb A n c I bad bs 0 hi _ HBX.out HA.out.row hn HZ.out hI HB.out v l HP.out hbad).mono ?_
  rintro e w1 ⟨rfl, hB1, hg⟩
  have HQ := Lib.hid (fun m => ⟨((hB1.drew m).setI I).setBad, hg.trans ((grown_drewN w1 m _).trans ((grown_set _ mb 1 _).trans (grown_set _ mb 2 _)))⟩ : ∀ m, Bx (((w1.drewN m).setCell ⟨mb, 1, none⟩ (.int .i64 I)).setCell ⟨mb, 2, none⟩ (.bool true)) mb (.slice A n c) I true ∧ w.grownBy (((w1.drewN m).setCell ⟨mb, 1, none⟩ (.int .i64 I)).setCell ⟨mb, 2, none⟩ (.bool true)) (some mb))
  obtain ⟨d0, d1, d2, d3⟩ := hB1
  have hf1 := (d3 1).1
  have hf2 := (d3 2).1
  have HG := Lib.hid hg
  clear d3 hg b0 b1 b2
  go_wp2_with fail
  go_quiet (fail)
  go_wp2_with fail
  go_ret2
  exact ⟨rfl, HQ.out _⟩
set_option maxRecDepth 100000 in
set_option maxHeartbeats 1000000 in
theorem reftext_bad2 (mb : Nat) (A : Option Addr) (n c I : Nat) (bad : Bool) (bs : List Int) (hi : Int) (w : World) (hB : Bx w mb (.slice A n c) I bad) (hA : RowX w mb A bs) (hn : n ≤ 1000000) (hz : n = bs.length) (hI : I ≤ n) (hb : bytes bs) (v : Int) (l : Nat) (hp : numP (bs.drop I) = (v, l)) (hl : 0 < l) (hv1 : 0 ≤ v) (hv2 : v ≤ hi) (hlen : (n : Int) - (I + l : Nat) < v) :
    Calls Try.prog 57 #[.pointer (some ⟨mb, 0, none⟩), .int .i64 hi] w (RefPost w mb (.slice A n c) (.string ByteArray.empty) 11 I true) := by
  have HZ := Lib.hid hz
  have HB := Lib.hid hb
  have HP := Lib.hid hp
  have HBX := Lib.hid hB
  have HA := Lib.hid hA
  have hll : I + l ≤ n := by have := (numP_len hp).1; rw [List.length_drop] at this; omega
  obtain ⟨b0, b1, b2, b3⟩ := hB
  clear hz hb hp b3 hA
  go_enter Try.func57, Try.ntmps57
  go_wp2_with fail
  refine (refrint_good mb A n c I bad bs 0 hi _ HBX.out HA.out.row hn HZ.out hI HB.out v l HP.out hl hv1 hv2).mono ?_
  rintro e w1 ⟨rfl, hB1, hg⟩
  have HQ := Lib.hid (fun m => ⟨((hB1.drew m).setI I).setBad, hg.trans ((grown_drewN w1 m _).trans ((grown_set _ mb 1 _).trans (grown_set _ mb 2 _)))⟩ : ∀ m, Bx (((w1.drewN m).setCell ⟨mb, 1, none⟩ (.int .i64 I)).setCell ⟨mb, 2, none⟩ (.bool true)) mb (.slice A n c) I true ∧ w.grownBy (((w1.drewN m).setCell ⟨mb, 1, none⟩ (.int .i64 I)).setCell ⟨mb, 2, none⟩ (.bool true)) (some mb))
  obtain ⟨d0, d1, d2, d3⟩ := hB1
  have hf1 := (d3 1).1
  have hf2 := (d3 2).1
  have HG := Lib.hid hg
  obtain ⟨S, hS⟩ : ∃ S, S = I + l := ⟨_, rfl⟩
  rw [← hS] at d1 hlen hll
  have hsub : IntKind.i64.wrap ((n : Int) - (S : Int)) = ((n - S : Nat) : Int) := by rw [IntWalk.i64_in _ (by omega)]; omega
  obtain ⟨D, hD⟩ : ∃ D, D = n - S := ⟨_, rfl⟩
  rw [← hD] at hsub
  have hd : decide ((D : Int) < v) = true := by simp; omega
  clear d3 hg b0 b1 b2 hS hD
  go_wp2_with fail
  go_quiet (fail)
  go_wp2_with fail
  go_ret2
  exact ⟨rfl, HQ.out _⟩
set_option maxRecDepth 100000 in
set_option maxHeartbeats 1000000 in
theorem reftext_good (mb : Nat) (A : Option Addr) (n c I : Nat) (bad : Bool) (bs : List Int) (hi : Int) (w : World) (hB : Bx w mb (.slice A n c) I bad) (hA : RowX w mb A bs) (hnil : A = none → c = 0) (hnc : n ≤ c) (hn : n ≤ 1000000) (hz : n = bs.length) (hI : I ≤ n) (hb : bytes bs) (t l : Nat) (hp : numP (bs.drop I) = ((t : Int), l)) (hl : 0 < l) (hv2 : (t : Int) ≤ hi) (hlen : I + l + t ≤ n) :
    Calls Try.prog 57 #[.pointer (some ⟨mb, 0, none⟩), .int .i64 hi] w (RefPost w mb (.slice A n c) (.string (strOfNums ((bs.drop (I + l)).take t))) 0 (I + l + t) bad) := by
  have HZ := Lib.hid hz
  have HB := Lib.hid hb
  have HP := Lib.hid hp
  have HBX := Lib.hid hB
  have HA := Lib.hid hA
  have HN := Lib.hid hnil
  have ht0 : (0 : Int) ≤ (t : Int) := by omega
  obtain ⟨b0, b1, b2, b3⟩ := hB
  obtain ⟨S, hS⟩ : ∃ S, S = I + l := ⟨_, rfl⟩
  rw [← hS] at hlen ⊢
  obtain ⟨E, hE⟩ : ∃ E, E = S + t := ⟨_, rfl⟩
  rw [← hE]
  obtain ⟨s, hs⟩ : ∃ s, s = strOfNums ((bs.drop S).take t) := ⟨_, rfl⟩
  rw [← hs]
  have HSS := Lib.hid hS
  have HST := Lib.hid hs
  clear hz hb hp b3 hA hnil hs hS
  go_enter Try.func57, Try.ntmps57
  go_wp2_with fail
  refine (refrint_good mb A n c I bad bs 0 hi _ HBX.out HA.out.row hn HZ.out hI HB.out t l HP.out hl ht0 hv2).mono ?_
  rintro e w1 ⟨rfl, hB1, hg⟩
  rw [← HSS.out] at hB1
  have hsub : IntKind.i64.wrap ((n : Int) - (S : Int)) = ((n - S : Nat) : Int) := by rw [IntWalk.i64_in _ (by omega)]; omega
  have hsum : IntKind.i64.wrap ((S : Int) + (t : Int)) = ((S + t : Nat) : Int) := by rw [IntWalk.i64_in _ (by omega)]; omega
  have hdif : IntKind.i64.wrap (((S + t : Nat) : Int) - (t : Int)) = (S : Int) := by rw [IntWalk.i64_in _ (by omega)]; omega
  obtain ⟨D, hD⟩ : ∃ D, D = n - S := ⟨_, rfl⟩
  rw [← hD] at hsub
  rw [← hE] at hsum hdif
  have HG := Lib.hid (fun m r => hg.trans (((grown_drewN w1 m _).trans (grown_set _ mb 1 (.int .i64 E))).trans (grown_drewN _ r _)) : ∀ m r, w.grownBy (((w1.drewN m).setCell ⟨mb, 1, none⟩ (.int .i64 E)).drewN r) (some mb))
  have HQ := Lib.hid (fun m r => ((hB1.drew m).setI E).drew r : ∀ m r, Bx (((w1.drewN m).setCell ⟨mb, 1, none⟩ (.int .i64 E)).drewN r) mb (.slice A n c) E bad)
  obtain ⟨d0, d1, d2, d3⟩ := hB1
  have hf1 := (d3 1).1
  have hd : decide ((D : Int) < (t : Int)) = false := by simp; omega
  have hd3 : decide (D < t) = false := by simp; omega
  have hSE : S ≤ E := by omega
  have hEn : E ≤ n := by omega
  have hES : E - S = t := by omega
  have HS := Lib.hid hlen
  have HE := Lib.hid hE
  clear d3 hg b0 b1 b2 hD hE hlen
  by_cases hcI : c = S
  · obtain rfl : t = 0 := by have := HS.out; omega
    obtain rfl : E = S := by have := HE.out; omega
    subst hcI
    have hcv : ∀ m r, Sem.run Try.prog (convert 40 9 (.slice A 0 0)) (((w1.drewN m).setCell ⟨mb, 1, none⟩ (.int .i64 c)).drewN r) = .ok (.string s) (((w1.drewN m).setCell ⟨mb, 1, none⟩ (.int .i64 c)).drewN r) := fun m r => by rw [HST.out]; exact conv_sv (RowX.sub0 _ _)
    go_wp2_with fail
    go_quiet (fail)
    go_wp2_with fail
    go_quiet (fail)
    go_wp2_with fail
    go_ret2
    exact ⟨rfl, HQ.out _ _, HG.out _ _⟩
  · have hne : (c == S) = false := by simp; omega
    have hcv : ∀ m r, Sem.run Try.prog (convert 40 9 (.slice (A.map fun x => x.add S) t (c - S))) (((w1.drewN m).setCell ⟨mb, 1, none⟩ (.int .i64 E)).drewN r) = .ok (.string s) (((w1.drewN m).setCell ⟨mb, 1, none⟩ (.int .i64 E)).drewN r) :=
      fun m r => by rw [HST.out]; exact conv_sv ((HA.out.far (HG.out m r)).sub HZ.out HS.out hcI HN.out)
    go_wp2_with fail
    go_quiet (fail)
    go_wp2_with fail
    go_quiet (fail)
    go_wp2_with fail
    go_ret2
    exact ⟨rfl, HQ.out _ _, HG.out _ _⟩
end Go.Proofs.Ytgegmbkjkiifaaa
