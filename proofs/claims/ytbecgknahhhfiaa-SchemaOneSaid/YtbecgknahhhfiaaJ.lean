/- names: all of them names, no two alike. -/
import Derived.Test.YtbecgknahhhfiaaI
namespace Go.Proofs.Ytbecgknahhhfiaa
open Go.RowKit
set_option linter.unusedSimpArgs false
set_option linter.unusedVariables false
def namesP (L : List ByteArray) : Prop := (∀ s ∈ L, nameP s) ∧ apartP L
set_option maxRecDepth 100000 in
set_option maxHeartbeats 2000000 in
theorem names_any (A : Option Addr) (n c : Nat) (L : List ByteArray) (w : World) (hA : Row w A (texts L)) (hz : n = L.length) (hnc : n ≤ c) (hn : n ≤ 9223372036854775807) (hL : ∀ s ∈ L, s.size ≤ 9223372036854775807) (r : Bool) (hr : r = true ↔ namesP L) :
    Calls Try.prog 25 #[.slice A n c] w fun e w' => e = .returned (.bool r) ∧ Below w.heap.size w w' := by
  have HA := Lib.hid hA
  have HZ := Lib.hid hz
  have HR := Lib.hid hr
  have HL := Lib.hid hL
  clear hA hz hr hL
  obtain ⟨q, hq⟩ : ∃ q : Bool, q = true ↔ ∃ s ∈ L, ¬ nameP s := by
    by_cases h : ∃ s ∈ L, ¬ nameP s
    · exact ⟨true, fun _ => h, fun _ => rfl⟩
    · exact ⟨false, fun e => (by cases e), fun e => absurd e h⟩
  have HQ := Lib.hid hq
  clear hq
  go_enter Try.func25, Try.ntmps25
  go_wp2_with fail
  go_enter Try.func22, Try.ntmps22
  go_wp2_with fail
  refine (anyno_any A n c L _ HA.out HZ.out hn HL.out q HQ.out).mono ?_
  rintro e w1 ⟨⟨v, rfl, hv1, hv2⟩, hB⟩
  cases q with
  | true =>
    have h0 := hv1 rfl
    have d0 : decide (0 ≤ v) = true := by simpa using h0
    obtain rfl : r = false := by
      cases r with
      | false => rfl
      | true =>
        obtain ⟨s, hs, h⟩ := HQ.out.1 rfl
        exact absurd ((HR.out.1 rfl).1 s hs) h
    clear hv1 hv2
    go_wp2_with fail
    go_ret
    exact ⟨rfl, hB⟩
  | false =>
    obtain rfl : v = -1 := hv2 rfl
    have HN := Lib.hid (show ∀ s ∈ L, nameP s from fun s hs => by
      by_cases h : nameP s
      · exact h
      · have := HQ.out.2 ⟨s, hs, h⟩; cases this)
    have HP := Lib.hid (show r = true ↔ apartP L from ⟨fun h => (HR.out.1 h).2, fun h => HR.out.2 ⟨HN.out, h⟩⟩)
    have HA1 := Lib.hid (HA.out.keep (Nat.le_refl _) hB)
    have HB := Lib.hid hB
    clear hv1 hv2 hB
    go_wp2_with fail
    refine (apart_any A n c L _ HA1.out HZ.out hnc hn r HP.out).mono ?_
    rintro e w2 ⟨rfl, rfl⟩
    go_wp2_with fail
    go_ret
    exact ⟨rfl, HB.out⟩
end Go.Proofs.Ytbecgknahhhfiaa
