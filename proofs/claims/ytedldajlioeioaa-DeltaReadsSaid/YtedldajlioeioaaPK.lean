/- The live question. -/
import Derived.Test.YtedldajlioeioaaPJ
namespace Go.Proofs.Ytedldajlioeioaa
open Go.RowKit
set_option linter.unusedSimpArgs false
set_option linter.unusedVariables false
theorem dl1 : encZ [10, 13, 15, 20] = [8, 20, 4, 4, 49] := by decide +kernel
theorem dl2 : strOfNums [8, 20, 4, 4, 49] = ⟨#[8, 20, 4, 4, 49]⟩ := by decide +kernel
theorem dl3 : ints [10, 13, 15, 20] := by intro x hx; simp at hx; unfold i64; omega
theorem dl4 : decZ [8, 20, 4, 4, 49] = some [10, 13, 15, 20] := dec_iff.2 ⟨⟨dl3, by simp⟩, dl1⟩
theorem dl5 : bytes [8, 20, 4, 4, 49] := by intro x hx; simp at hx; omega
set_option maxRecDepth 100000 in
set_option maxHeartbeats 4000000 in
theorem alive_any (w : World) : Calls Try.prog 8 #[] w fun e w' => e = .returned (.bool true) ∧ Below w.heap.size w w' := by
  go_enter Try.func8, Try.ntmps8
  go_wp2_with fail
  refine (encode_any (some ⟨w.heap.size, 0, none⟩) 4 4 [10, 13, 15, 20] _ (Row.made rfl rfl) rfl (by omega) dl3).mono ?_
  rw [dl1]
  rintro e w1 ⟨A1, c1, rfl, hr1, hc1, hn1, hB1⟩
  have HR1 := Lib.hid hr1
  have HN1 := Lib.hid hn1
  have HB1 := Lib.hid (show Below w.heap.size w w1 from bthen (bpush (Below.refl _ _) _) hB1)
  clear hr1 hn1 hB1 hc1
  go_wp2_with fail
  refine (decode_any A1 5 c1 [8, 20, 4, 4, 49] _ HR1.out rfl (by omega) dl5 HN1.out _ dl4.symm).mono ?_
  rintro e w2 ⟨⟨A2, c2, rfl, hr2, hc2, hn2⟩, hB2⟩
  obtain ⟨b2, o2, rfl, hc3⟩ := hr2.cell (i := 3) (by simp)
  replace hc3 : w2.cell? ⟨b2, o2 + 3, none⟩ = some (.int .i64 20) := hc3
  have v1 := conv_any (c := c1) (HR1.out.keep (Nat.le_refl _) hB2) (n := 5) rfl
  rw [dl2] at v1
  have HR2 := Lib.hid hr2
  have HB2 := Lib.hid (bthen HB1.out hB2)
  clear hr2 hc2 hn2 hB2
  go_wp2_with fail
  refine (sorted_any (some ⟨b2, o2, none⟩) 4 c2 [10, 13, 15, 20] _ HR2.out rfl (by omega) true rfl).mono ?_
  rintro e w3 ⟨rfl, hq⟩
  have HB3 := Lib.hid (show Below w.heap.size w w3 by obtain ⟨m, rfl⟩ := hq; exact below_drewN HB2.out m)
  clear v1 hc3 hq
  go_wp2_with fail
  refine (sorted_any (some ⟨w3.heap.size, 0, none⟩) 2 2 [2, 1] _ (Row.made rfl rfl) rfl (by omega) false rfl).mono ?_
  rintro e w4 ⟨rfl, hq⟩
  have HB4 := Lib.hid (show Below w.heap.size w w4 by obtain ⟨m, rfl⟩ := hq; exact below_drewN (bpush HB3.out _) m)
  clear hq
  go_wp2_with fail
  go_ret
  exact ⟨rfl, HB4.out⟩
end Go.Proofs.Ytedldajlioeioaa
