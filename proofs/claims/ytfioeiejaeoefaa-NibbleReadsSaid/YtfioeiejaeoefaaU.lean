/- The law NibbleReads: its walk, from what both sides answer. -/
import Derived.Test.YtfioeiejaeoefaaO
namespace Go.Proofs.Ytfioeiejaeoefaa
open Go.RowKit
set_option linter.unusedSimpArgs false
set_option linter.unusedVariables false
theorem unpack_both (A : Option Addr) (n c : Nat) (bs : List Int) (m W : Int) (hz : n = bs.length) (hb : bytes bs) (hn : n ≤ 300) :
    ∃ L E, L.length ≤ 65536 ∧ small L ∧ ∀ w, Row w A (bs.map (Value.int .u8)) → Calls Try.prog 15 #[.slice A n c, .int .i64 m, .int .i64 W] w (NumsE w L E) ∧ Calls Try.prog 16 #[.slice A n c, .int .i64 m, .int .i64 W] w (NumsE w L E) := by
  by_cases hok : okSize m W
  · obtain ⟨⟨h1, h2⟩, h3, h4⟩ := hok
    obtain ⟨M, rfl⟩ := Int.eq_ofNat_of_zero_le h1
    obtain ⟨V, rfl⟩ := Int.eq_ofNat_of_zero_le h3
    by_cases hs : n = sizeN M V
    · by_cases hp : numF (bitB bs) (M * V) (8 * n - M * V) = 0
      · refine ⟨unp bs V M, 0, by rw [unp_length]; omega, unp_small bs V M (by omega), fun w hA => ⟨(unpack_good A n c bs M V w hA hz hb (by omega) (by omega) (by omega) hs hp).mono ?_, (runpack_any A n c bs M V w hA hz hb (by omega) (by omega) (by omega) hs).mono fun e w' h => h.1 hp⟩⟩
        rintro e w' ⟨g, he, hr, hB⟩
        exact ⟨_, _, he, hr, hB⟩
      · refine ⟨[], 71, by simp, by intro x hx; simp at hx, fun w hA => ⟨(unpack_wrong A n c bs M V w hA hz hb (by omega) (by omega) (by omega) (fun h => hp h.2)).mono ?_, (runpack_any A n c bs M V w hA hz hb (by omega) (by omega) (by omega) hs).mono fun e w' h => h.2 hp⟩⟩
        rintro e w' ⟨he, rfl⟩
        exact ⟨none, 0, he, .inl rfl, Below.refl _ _⟩
    · refine ⟨[], 71, by simp, by intro x hx; simp at hx, fun w hA => ⟨(unpack_wrong A n c bs M V w hA hz hb (by omega) (by omega) (by omega) (fun h => hs h.1)).mono ?_, runpack_size A n c M V w (by omega) (by omega) (by omega) hs⟩⟩
      rintro e w' ⟨he, rfl⟩
      exact ⟨none, 0, he, .inl rfl, Below.refl _ _⟩
  · refine ⟨[], 1, by simp, by intro x hx; simp at hx, fun w hA => ⟨(unpack_bad A n c m W w hok).mono ?_, runpack_bad A n c m W w hok⟩⟩
    rintro e w' ⟨he, rfl⟩
    exact ⟨none, 0, he, .inl rfl, Below.refl _ _⟩
theorem at_both (A : Option Addr) (n c : Nat) (bs : List Int) (i W : Int) (hi9 : i ≤ 9223372036854775807) (hz : n = bs.length) (hb : bytes bs) (hn : n ≤ 300) :
    ∃ x E, ∀ w, Row w A (bs.map (Value.int .u8)) → (Calls Try.prog 17 #[.slice A n c, .int .i64 i, .int .i64 W] w fun e w' => e = .returned (.tuple #[.int .u64 x, .int .i64 E]) ∧ w = w') ∧ (Calls Try.prog 18 #[.slice A n c, .int .i64 i, .int .i64 W] w fun e w' => e = .returned (.tuple #[.int .u64 x, .int .i64 E]) ∧ w = w') := by
  by_cases hok : 0 ≤ i ∧ 0 ≤ W ∧ W ≤ 64
  · obtain ⟨h1, h3, h4⟩ := hok
    obtain ⟨I, rfl⟩ := Int.eq_ofNat_of_zero_le h1
    obtain ⟨V, rfl⟩ := Int.eq_ofNat_of_zero_le h3
    rcases Nat.eq_zero_or_pos V with h0 | h0
    · subst h0
      exact ⟨_, _, fun w _ => ⟨at_zero A n c _ w h1, rat_zero A n c _ w h1⟩⟩
    · rcases Nat.lt_or_ge I (n * 8 / V) with h5 | h5
      · exact ⟨_, _, fun w hA => ⟨at_good A n c bs I V w hA hz hb (by omega) h0 (by omega) h5, rat_good A n c bs I V w hA hz hb (by omega) h0 (by omega) h5⟩⟩
      · exact ⟨_, _, fun w hA => ⟨at_far A n c I V w (by omega) (by omega) h0 (by omega) h5, rat_far A n c I V w (by omega) (by omega) h0 (by omega) h5⟩⟩
  · exact ⟨_, _, fun w _ => ⟨at_bad A n c i W w hok, rat_bad A n c i W w hok⟩⟩
theorem same_of (A A' : Option Addr) (n c n' c' : Nat) (L : List Nat) (w : World) (hA : Row w A (u64s L)) (hA' : Row w A' (u64s L)) (hz : n = L.length) (hz' : n' = L.length) (hn : n ≤ 65536) :
    Calls Try.prog 19 #[.slice A n c, .slice A' n' c'] w fun e w' => e = .returned (.bool true) ∧ Below w.heap.size w w' := same_yes A A' n c n' c' L w hA hA' hz hz' (by omega)
set_option maxRecDepth 100000 in
set_option maxHeartbeats 4000000 in
theorem reads_any (A : Option Addr) (n c : Nat) (bs : List Int) (m W i : Int) (w : World) (hA : Row w A (bs.map (Value.int .u8))) (hz : n = bs.length) (hb : bytes bs) (hi : i ≤ 9223372036854775807) :
    Calls Try.prog 4 #[.slice A n c, .int .i64 m, .agg #[.int .i64 W, .int .i64 i]] w fun e w' => e = .returned (.bool true) ∧ Below w.heap.size w w' := by
  by_cases hl1 : 300 < n
  · clear hz
    have hl : (300 : Int) < (n : Int) := by omega
    go_enter Try.func4, Try.ntmps4
    go_wp2_with fail
    refine (alive_any _).mono ?_
    rintro e w1 ⟨rfl, hb⟩
    have HB := Lib.hid (bthen (bpush (Below.refl _ _) _) hb)
    clear hb
    go_wp2
    go_ret
    exact ⟨rfl, HB.out⟩
  · have hl : decide ((300 : Int) < (n : Int)) = false := by simp; omega
    obtain ⟨L, E, hL, hsm, hU⟩ := unpack_both A n c bs m W hz hb (by omega)
    obtain ⟨x, F, hT⟩ := at_both A n c bs i W hi hz hb (by omega)
    have HU := Lib.hid hU
    have HT := Lib.hid hT
    obtain ⟨w0, hw0⟩ : ∃ w0, w0 = w.alloc (.cells #[.int .i64 W, .int .i64 i] 32) := ⟨_, rfl⟩
    have hB0 : Below w.heap.size w w0 := by rw [hw0]; exact bpush (Below.refl _ _) _
    have HA := Lib.hid (hA.keep (Nat.le_refl _) hB0)
    have HB0 := Lib.hid hB0
    have hb0 : Blk w0 w.heap.size 32 #[.int .i64 W, .int .i64 i] := by rw [hw0]; exact Blk.new _ _ _
    have HK0 := Lib.hid hb0
    have HW0 := Lib.hid hw0
    obtain ⟨K, hK⟩ : ∃ K, K = L.length := ⟨_, rfl⟩
    have HK := Lib.hid hK
    obtain ⟨g0, hg0⟩ : ∃ g, g = w.heap.size := ⟨_, rfl⟩
    have HG0 := Lib.hid hg0
    clear hU hT hA hz hb hK hl1 hw0 hB0 hb0 hg0
    go_enter Try.func4, Try.ntmps4
    go_wp2_with fail
    rw [← HW0.out]
    refine (HU.out _ HA.out).1.mono ?_
    rintro e w1 ⟨A1, c1, rfl, hr1, hB1⟩
    rw [← HK.out]
    have HR1 := Lib.hid hr1
    have HB1 := Lib.hid (HB0.out.trans (hB1.mono HB0.out.size))
    have HA1 := Lib.hid (HA.out.keep (Nat.le_refl _) hB1)
    have HK1 := Lib.hid (HK0.out.below hB1 HK0.out.lt)
    have hc0 : w1.cell? ⟨w.heap.size, 0, none⟩ = some (.int .i64 W) := HK1.out.cell 0
    have hc1 : w1.cell? ⟨w.heap.size, 1, none⟩ = some (.int .i64 i) := HK1.out.cell 1
    clear hr1 hB1 HB0 HA HK0 HW0
    go_wp2_with fail
    refine (HU.out _ HA1.out).2.mono ?_
    rintro e w2 ⟨A2, c2, rfl, hr2, hB2⟩
    rw [← HK.out]
    have HR2 := Lib.hid hr2
    have HB2 := Lib.hid (bthen HB1.out hB2)
    replace HR1 := Lib.hid (HR1.out.keep (Nat.le_refl _) hB2)
    have HA2 := Lib.hid (HA1.out.keep (Nat.le_refl _) hB2)
    have HK2 := Lib.hid (HK1.out.below hB2 HK1.out.lt)
    clear hc0 hc1
    have hc0 : w2.cell? ⟨w.heap.size, 0, none⟩ = some (.int .i64 W) := HK2.out.cell 0
    have hc1 : w2.cell? ⟨w.heap.size, 1, none⟩ = some (.int .i64 i) := HK2.out.cell 1
    clear hr2 hB2 HB1 HA1 HK1
    go_wp2_with fail
    refine (HT.out _ HA2.out).1.mono ?_
    rintro e w3 ⟨rfl, rfl⟩
    go_wp2_with fail
    refine (HT.out _ HA2.out).2.mono ?_
    rintro e w3 ⟨rfl, rfl⟩
    go_wp2_with fail
    refine (alive_any _).mono ?_
    rintro e w4 ⟨rfl, hB4⟩
    have HB4 := Lib.hid (bthen HB2.out hB4)
    replace HR1 := Lib.hid (HR1.out.keep (Nat.le_refl _) hB4)
    replace HR2 := Lib.hid (HR2.out.keep (Nat.le_refl _) hB4)
    clear hB4 HB2 hc0 hc1
    go_wp2_with fail
    refine (same_of _ _ _ _ _ _ L _ HR1.out HR2.out HK.out HK.out (by rw [HK.out]; exact hL)).mono ?_
    rintro e w5 ⟨rfl, hB5⟩
    have HB5 := Lib.hid (bthen HB4.out hB5)
    clear hB5 HB4
    go_wp2
    go_ret
    exact ⟨by simp, HB5.out⟩
end Go.Proofs.Ytfioeiejaeoefaa
