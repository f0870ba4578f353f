/- DeltaReads: its walk. -/
import Derived.Test.YtedldajlioeioaaPQ
import Derived.Test.YtedldajlioeioaaPK
namespace Go.Proofs.Ytedldajlioeioaa
open Go.RowKit
set_option linter.unusedSimpArgs false
set_option linter.unusedVariables false
set_option maxRecDepth 100000 in
set_option maxHeartbeats 4000000 in
theorem reads_walk (B : Option Addr) (nb cb : Nat) (X : List Int) (w : World) (hB : Row w B (X.map (Value.int .u8))) (hzb : nb = X.length) (bX : bytes X) (hnc : nb ≤ cb) (nB : B = none → cb = 0) (hnb9 : nb ≤ 9223372036854775807) :
    Calls Try.prog 4 #[.slice B nb cb] w fun e w' => e = .returned (.bool true) ∧ Below w.heap.size w w' := by
  have HB := Lib.hid hB
  have HZB := Lib.hid hzb
  have HBX := Lib.hid bX
  have HNB := Lib.hid nB
  have HNC := Lib.hid hnc
  clear hB hzb bX nB hnc
  by_cases h2 : 300 < nb
  · have hi : (300 : Int) < (nb : Int) := by omega
    go_enter Try.func4, Try.ntmps4
    go_wp2_with fail
    refine (alive_any _).mono ?_
    rintro e w1 ⟨rfl, hb⟩
    go_wp2
    go_ret
    exact ⟨rfl, hb⟩
  have hi : (nb : Int) ≤ 300 := by omega
  have hnb3 : nb ≤ 300 := by omega
  obtain ⟨o, ho⟩ : ∃ o, o = decZ X := ⟨_, rfl⟩
  have HO := Lib.hid ho
  clear ho h2
  go_enter Try.func4, Try.ntmps4
  go_wp2_with fail
  refine (decode_any B nb cb X _ HB.out HZB.out (by omega) HBX.out HNB.out o HO.out).mono ?_
  rintro e w1 ⟨hm, hB1⟩
  have HB1 := Lib.hid hB1
  clear hB1
  cases o with
  | none =>
    obtain rfl := hm
    go_wp2_with fail
    refine (rdecode_any B nb cb X _ (HB.out.keep (Nat.le_refl _) HB1.out) HZB.out (by omega) HBX.out HNC.out HNB.out none HO.out).mono ?_
    rintro e w2 ⟨hm2, hB2⟩
    obtain rfl := hm2
    have HB2 := Lib.hid (bthen HB1.out hB2)
    clear hB2
    go_wp2_with fail
    refine (alive_any _).mono ?_
    rintro e w5 ⟨rfl, hb⟩
    have HB5 := Lib.hid (bthen HB2.out hb)
    clear hb
    go_wp2_with fail
    refine (ints_any none none 0 0 0 0 [] [] _ (.inl rfl) (.inl rfl) rfl rfl (by omega) true (by simp)).mono ?_
    rintro e w6 ⟨rfl, hq⟩
    have HB6 := Lib.hid (show Below w.heap.size w w6 by obtain ⟨m, rfl⟩ := hq; exact below_drewN HB5.out m)
    clear hq
    go_wp2
    go_ret
    exact ⟨by first | rfl | simp, HB6.out⟩
  | some l =>
    obtain ⟨A1, c1, rfl, hr1, hc1, hn1⟩ := hm
    obtain ⟨m, hm⟩ : ∃ m, m = l.length := ⟨_, rfl⟩
    have hm9 : m ≤ 65536 := by rw [hm]; exact (dec_iff.1 HO.out.symm).1.2
    rw [← hm] at hc1 ⊢
    have HM := Lib.hid hm
    have HR1 := Lib.hid hr1
    clear hr1 hc1 hn1 hm
    go_wp2_with fail
    refine (rdecode_any B nb cb X _ (HB.out.keep (Nat.le_refl _) HB1.out) HZB.out (by omega) HBX.out HNC.out HNB.out (some l) HO.out).mono ?_
    rintro e w2 ⟨⟨A2, c2, rfl, hr2, hc2, hn2⟩, hB2⟩
    rw [← HM.out]
    have HR12 := Lib.hid (HR1.out.keep (Nat.le_refl _) hB2)
    have HR2 := Lib.hid hr2
    have HB2 := Lib.hid (bthen HB1.out hB2)
    clear hB2 hr2 hc2 hn2
    go_wp2_with fail
    refine (alive_any _).mono ?_
    rintro e w5 ⟨rfl, hb⟩
    have HR15 := Lib.hid (HR12.out.keep (Nat.le_refl _) hb)
    have HR25 := Lib.hid (HR2.out.keep (Nat.le_refl _) hb)
    have HB5 := Lib.hid (bthen HB2.out hb)
    clear hb
    go_wp2_with fail
    refine (ints_any A1 A2 m c1 m c2 l l _ HR15.out HR25.out HM.out HM.out (by omega) true (by simp)).mono ?_
    rintro e w6 ⟨rfl, hq⟩
    have HB6 := Lib.hid (show Below w.heap.size w w6 by obtain ⟨m, rfl⟩ := hq; exact below_drewN HB5.out m)
    clear hq
    go_wp2
    go_ret
    exact ⟨by first | rfl | simp, HB6.out⟩
end Go.Proofs.Ytedldajlioeioaa
