import Derived.Test.YtdgaemgilcbdiaaI
namespace Go.Proofs.Ytdgaemgilcbdiaa
open Go.RowKit
set_option linter.unusedSimpArgs false
theorem all_got {A : Option Addr} {n c : Nat} {z : Int} {zs : List Int} {r : A3 × Int} (h : finA (allA z zs) = r) (w : World) (hA : Row w A ((z :: zs).map (Value.int .i64))) (hn : n ≤ 9223372036854775807) (hz : n = zs.length + 1) (hnc : n ≤ c) :
    Calls Try.prog 10 #[.slice A n c] w (Ans r w) := by subst h; exact all_some A n c z zs w hA hn hz hnc
theorem alive_sum : finA (allA 3 [-7, 5]) = (⟨1, -7, 5⟩, 0) := by kernel_rfl
set_option maxHeartbeats 400000 in
theorem alive_any (w : World) : Calls Try.prog 7 #[] w fun e w' => e = .returned (.bool true) ∧ Below w.heap.size w w' := by
  go_enter Try.func7, Try.ntmps7
  go_wp2_with fail
  refine (all_got (n := 3) (c := 3) alive_sum _ ?_ (by omega) rfl (by omega)).mono ?_
  · exact Row.made rfl rfl
  rintro e w1 ⟨rfl, hb⟩
  have hB1 : Below w.heap.size w w1 := bthen (bpush (Below.refl _ _) _) hb
  have hX := Box3.new w1 23 1 (-7) 5
  go_wp2_with fail
  refine (one_no _ _ (fit1_hi (by omega))).mono ?_
  rintro e w2 ⟨rfl, hb2⟩
  have hX2 := hX.keep hb2
  have hB2 := bthen (bpush hB1 _) hb2
  obtain ⟨x0, x1, x2, xf⟩ := hX2
  have hl := lt_of_cell x0
  clear hX hb hb2
  go_wp2_with (go_at_call 16; refine (size_any _ _ (by omega)).mono ?_; rintro e w' ⟨rfl, rfl⟩)
  go_ret
  exact ⟨ret_bool (by decide), by repeat (first | refine bset ?_ (by omega) _ | refine bpush ?_ _ | exact hB2)⟩
end Go.Proofs.Ytdgaemgilcbdiaa
