/- Clone of a list of texts (25). -/
import Derived.Test.YtgaallkdfcckpaaTX
namespace Go.Proofs.Ytgaallkdfcckpaa
open Go.RowKit
set_option linter.unusedSimpArgs false
set_option linter.unusedVariables false
theorem eql_nil22 (A : Option Addr) (n c : Nat) (w : World) : (binOp .eql 22 (.slice A n c) (.slice none 0 0)).run Try.prog w = .ok (.bool A.isNone) w := by
  simp only [binOp]
  rw [Sem.run_bind, run_equal_slice_nil w 22 9 A n c Try.underlying22]; rfl
set_option maxRecDepth 100000 in
set_option maxHeartbeats 8000000 in
theorem cloneT_any (A : Option Addr) (n c : Nat) (xs : List Value) (w : World) (hA : Row w A xs) (hx : xs.length = n * 1) (h1 : ∀ u ∈ xs, u.oneCell' = true) (hnc : n ≤ c) (ha : A = none → c = 0) (hs : n * 16 ≤ 140737488355328) :
    Calls Try.prog 53 #[.slice A n c] w fun e w' => ∃ D k, e = .returned (.slice D n k) ∧ w'.ownsRow w.heap.size 9 1 (.slice D n k) n xs ∧ Below w.heap.size w w' := by
  have HA := Lib.hid hA
  have HX := Lib.hid hx
  have HN := Lib.hid hnc
  have H1 := Lib.hid h1
  have HS := Lib.hid hs
  clear hA hx hnc h1 hs
  cases A with
  | none =>
    have e1 : c = 0 := ha rfl
    have e2 : n = 0 := by have := HN.out; omega
    subst e1 e2
    have e3 : xs = [] := List.eq_nil_of_length_eq_zero (by have := HX.out; omega)
    subst e3
    clear ha
    have hq := eql_nil22 none 0 0
    go_enter Try.func53, Try.ntmps53
    go_wp2_with fail
    go_ret
    exact ⟨_, _, rfl, World.ownsRow_nil _ _ _ _, Below.refl _ _⟩
  | some a =>
    clear ha
    obtain ⟨i0, hi0, hz0, hz1, hz2⟩ := info_parts info9
    have HM : Hid (n ≤ maxLen) := Lib.hid (by have := HS.out; unfold maxLen; omega)
    have hq := eql_nil22 (some a) n c
    go_enter Try.func53, Try.ntmps53
    go_wp2_with (at_builtin; refine wpList_append_own_at _ rfl _ _ 22 rfl w.heap.size 9 i0 (.string ⟨#[]⟩) 1 16 Try.underlying22 hi0 hz0 hz1 hz2 rfl (by decide) _ 0 [] rfl (own_empty (Nat.le_refl _)) a n c xs rfl HX.out ((HA.out.keep (Nat.le_refl _) (bpush (Below.refl _ _) _)).at') H1.out (by rw [Nat.zero_add]; exact HM.out) (by rw [Nat.zero_add]; exact HS.out) (by simp) ?_; intro v5 w5 ho5 hg5 _ _)
    have hb5 : Below w.heap.size w w5 := ⟨hg5.os, hg5.tape, hg5.output, by have := hg5.size; simp at this; omega, fun i hi => by
      rw [hg5.block i (by simp; omega) (by intro e; have e2 : i = w.heap.size := Option.some.inj e; omega)]
      exact Below.heap_alloc _ _ _ hi⟩
    rw [Nat.zero_add, List.nil_append] at ho5
    have hv : ∃ D k, v5 = .slice D n k := by
      rcases ho5.2 with ⟨rfl, h0⟩ | ⟨g, cap, cur, rfl, _⟩
      · exact ⟨none, 0, by rw [h0]⟩
      · exact ⟨_, _, rfl⟩
    obtain ⟨D, k, rfl⟩ := hv
    have HO5 := Lib.hid ho5
    have HB5 := Lib.hid hb5
    clear ho5 hg5 hb5
    go_wp2_with fail
    go_ret
    exact ⟨_, _, rfl, HO5.out, HB5.out⟩
end Go.Proofs.Ytgaallkdfcckpaa
