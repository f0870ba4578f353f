/- Texts: are two lists of texts one. -/
import Derived.Test.YtgaallkdfcckpaaVH
namespace Go.Proofs.Ytgaallkdfcckpaa
open Go.RowKit
set_option linter.unusedSimpArgs false
set_option maxRecDepth 100000 in
set_option maxHeartbeats 4000000 in
theorem texts_any (A B : Option Addr) (na ca nb cb : Nat) (La Lb : List ByteArray) (w : World) (hA : Row w A (texts La)) (hB : Row w B (texts Lb)) (hna : na = La.length) (hnb : nb = Lb.length) (hn : na ≤ 9223372036854775807) (hn2 : nb ≤ 9223372036854775807) (r : Bool) (hr : r = true ↔ La = Lb) :
    Calls Try.prog 63 #[.slice A na ca, .slice B nb cb] w fun e w' => e = .returned (.bool r) ∧ Below w.heap.size w w' := by
  suffices hs : Calls Try.prog 63 #[.slice A na ca, .slice B nb cb] w fun e w' => e = .returned (.bool r) ∧ ∃ m, w' = w.drewN m by
    refine hs.mono ?_
    rintro e w' ⟨he, m, rfl⟩
    exact ⟨he, below_drewN (Below.refl _ _) m⟩
  have HR := Lib.hid hr
  have HA := Lib.hid hA
  have HB := Lib.hid hB
  have HNA := Lib.hid hna
  have HNB := Lib.hid hnb
  clear hr hA hB hna hnb
  by_cases hne : na = nb
  · subst hne
    go_enter Try.func63, Try.ntmps63
    go_wp2_with fail
    go_loopw [5] (fun i wr => ∃ k : Nat, k ≤ na ∧ i = .int .i64 k ∧ Hid (La.take k = Lb.take k) ∧ Hid (∃ m, wr = w.drewN m)) (fun i _ => na - (intOf i).toNat)
    case atStart => exact ⟨0, by omega, rfl, Lib.hid (by simp), Lib.hid ⟨0, rfl⟩⟩
    case round =>
      obtain ⟨k, hk, rfl, HE, HM⟩ := hrel
      obtain ⟨m, hm⟩ := HM.out
      by_cases hlt : k < na
      · have hka : k < La.length := by have := HNA.out; omega
        have hkb : k < Lb.length := by have := HNB.out; omega
        obtain ⟨ba, oa, rfl, c0⟩ := text_cell HA.out hka
        obtain ⟨bb, ob, rfl, c1⟩ := text_cell HB.out hkb
        obtain ⟨x, hx⟩ : ∃ x, x = La[k] := ⟨_, rfl⟩
        obtain ⟨y, hy⟩ : ∃ y, y = Lb[k] := ⟨_, rfl⟩
        rw [← hx] at c0
        rw [← hy] at c1
        have c3 : wr.cell? ⟨ba, oa + k, none⟩ = some (.string x) := by rw [hm]; simpa using c0
        have c4 : wr.cell? ⟨bb, ob + k, none⟩ = some (.string y) := by rw [hm]; simpa using c1
        have HX := Lib.hid hx
        have HY := Lib.hid hy
        have HM2 := Lib.hid (fun q => ⟨m + q, by rw [hm, World.drewN_drewN]⟩ : ∀ q, ∃ m, wr.drewN q = w.drewN m)
        have hk0 : (0 : Int) ≤ (k : Int) := by omega
        have hki : (k : Int) < (na : Int) := by omega
        clear hx hy c0 c1 hm HM
        by_cases e : x = y
        · have HE2 := Lib.hid (show La.take (k + 1) = Lb.take (k + 1) by
            rw [take_snoc _ _ hka, take_snoc _ _ hkb, HE.out, ← HX.out, ← HY.out, e])
          subst e
          clear HE HX HY
          go_wp2_with fail
          go_quiet (fail)
          go_wp2_with fail
          go_roundw
          case rel => exact ⟨k + 1, by omega, by go_num, HE2, Lib.hid (HM2.out _)⟩
          case measure => simp [intOf]; omega
        · obtain rfl : r = false := by
            rw [Bool.eq_false_iff]
            intro h
            refine e ?_
            have h2 := HR.out.1 h
            rw [HX.out, HY.out]; simp only [h2]
          have hd := str_ne e
          clear HE HR HX HY
          go_wp2_with fail
          go_quiet (fail)
          go_wp2_with fail
          go_ret
          exact ⟨rfl, HM2.out _⟩
      · obtain rfl : k = na := by omega
        obtain rfl : r = true := by
          refine HR.out.2 ?_
          have h := HE.out
          rw [List.take_of_length_le (by have := HNA.out; omega), List.take_of_length_le (by have := HNB.out; omega)] at h
          exact h
        have hlt2 : ¬ ((k : Int) < (k : Int)) := by omega
        clear HR HE
        have HMM := Lib.hid hm
        clear hm HM
        go_wp2_with fail
        go_ret
        exact ⟨rfl, m, HMM.out⟩
  · obtain rfl : r = false := by
      rw [Bool.eq_false_iff]
      intro h
      have h2 := HR.out.1 h
      refine hne ?_
      rw [HNA.out, HNB.out, h2]
    have hd : ((na : Int) != (nb : Int)) = true := by simp; omega
    clear HR
    go_enter Try.func63, Try.ntmps63
    go_wp2_with fail
    go_ret
    exact ⟨rfl, 0, rfl⟩
end Go.Proofs.Ytgaallkdfcckpaa
