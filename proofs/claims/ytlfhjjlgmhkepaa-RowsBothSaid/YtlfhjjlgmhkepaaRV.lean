/- RowsBoth. -/
import Derived.Test.YtlfhjjlgmhkepaaRU
import Derived.Test.YtlfhjjlgmhkepaaRP
namespace Go.Proofs.Ytlfhjjlgmhkepaa
open Go.RowKit
set_option linter.unusedSimpArgs false
set_option linter.unusedVariables false
theorem cmpK_swap (t u : Int) (L M : List ByteArray) : cmpK u t M L = - cmpK t u L M := cmpV_neg ⟨t, L, 0, []⟩ ⟨u, M, 0, []⟩
set_option maxRecDepth 100000 in
set_option maxHeartbeats 32000000 in
theorem both_walk (A B : Option Addr) (n c m d : Nat) (L M : List ByteArray) (t0 u0 : Int) (D0 G0 : Option Addr) (n0 c0 gn0 gc0 : Nat) (L0 : List ByteArray) (X0 : List Ag) (t1 u1 : Int) (D1 G1 : Option Addr) (n1 c1 gn1 gc1 : Nat) (L1 : List ByteArray) (X1 : List Ag) (w : World) (hA : Row w A (texts L)) (hB : Row w B (texts M)) (hn : n = L.length) (hm : m = M.length) (hnc : n ≤ c) (hmd : m ≤ d) (ha : A = none → c = 0) (hb : B = none → d = 0)
    (hL : ∀ s ∈ L, s.size ≤ 9223372036854775807) (hM : ∀ s ∈ M, s.size ≤ 9223372036854775807) (hn2 : n ≤ 9223372036854775807) (hm2 : m ≤ 9223372036854775807) (h0 : Good0 w (⟨D0, n0, c0, G0, gn0, gc0⟩, ⟨t0, L0, u0, X0⟩)) (z0 : ∀ s ∈ L0, s.size ≤ 9223372036854775807) (h1 : Good0 w (⟨D1, n1, c1, G1, gn1, gc1⟩, ⟨t1, L1, u1, X1⟩)) (z1 : ∀ s ∈ L1, s.size ≤ 9223372036854775807) :
    Calls Try.prog 4 #[.agg #[.slice A n c, .slice B m d], .agg #[.int .i64 t0, .slice D0 n0 c0, .int .i64 u0, .slice G0 gn0 gc0, .int .i64 t1, .slice D1 n1 c1, .int .i64 u1, .slice G1 gn1 gc1]] w fun e w' => e = .returned (.bool true) ∧ Below w.heap.size w w' := by
  obtain ⟨W1, hW1⟩ : ∃ W1, W1 = (((w.alloc (.cells #[.slice A n c, .slice B m d] 24)).alloc (.cells #[.int .i64 t0, .slice D0 n0 c0, .int .i64 u0, .slice G0 gn0 gc0, .int .i64 t1, .slice D1 n1 c1, .int .i64 u1, .slice G1 gn1 gc1] 40)).alloc (.cells #[.int .i64 t0, .slice D0 n0 c0, .int .i64 u0, .slice G0 gn0 gc0] 27)).alloc (.cells #[.int .i64 t1, .slice D1 n1 c1, .int .i64 u1, .slice G1 gn1 gc1] 27) := ⟨_, rfl⟩
  have hb1 : Below w.heap.size w W1 := by rw [hW1]; exact bpush (bpush (bpush (bpush (Below.refl _ _) _) _) _) _
  have HB1 := Lib.hid hb1
  have S0C := Lib.hid (show W1.cell? ⟨w.heap.size, 0, none⟩ = some (.slice A n c) by rw [hW1]; exact cell_on (bpush (bpush (bpush (Below.refl _ _) _) _) _) (cell_made rfl rfl))
  have S1C := Lib.hid (show W1.cell? ⟨w.heap.size, 1, none⟩ = some (.slice B m d) by rw [hW1]; exact cell_on (bpush (bpush (bpush (Below.refl _ _) _) _) _) (cell_made rfl rfl))
  have A0C := Lib.hid (show W1.cell? ⟨w.heap.size + 1 + 1, 0, none⟩ = some (.int .i64 t0) by rw [hW1]; exact cell_on (bpush (Below.refl _ _) _) (cell_made (by simp) rfl))
  have A1C := Lib.hid (show W1.cell? ⟨w.heap.size + 1 + 1, 1, none⟩ = some (.slice D0 n0 c0) by rw [hW1]; exact cell_on (bpush (Below.refl _ _) _) (cell_made (by simp) rfl))
  have A2C := Lib.hid (show W1.cell? ⟨w.heap.size + 1 + 1, 2, none⟩ = some (.int .i64 u0) by rw [hW1]; exact cell_on (bpush (Below.refl _ _) _) (cell_made (by simp) rfl))
  have A3C := Lib.hid (show W1.cell? ⟨w.heap.size + 1 + 1, 3, none⟩ = some (.slice G0 gn0 gc0) by rw [hW1]; exact cell_on (bpush (Below.refl _ _) _) (cell_made (by simp) rfl))
  have B0C := Lib.hid (show W1.cell? ⟨w.heap.size + 1 + 1 + 1, 0, none⟩ = some (.int .i64 t1) by rw [hW1]; exact cell_made (by simp) rfl)
  have B1C := Lib.hid (show W1.cell? ⟨w.heap.size + 1 + 1 + 1, 1, none⟩ = some (.slice D1 n1 c1) by rw [hW1]; exact cell_made (by simp) rfl)
  have B2C := Lib.hid (show W1.cell? ⟨w.heap.size + 1 + 1 + 1, 2, none⟩ = some (.int .i64 u1) by rw [hW1]; exact cell_made (by simp) rfl)
  have B3C := Lib.hid (show W1.cell? ⟨w.heap.size + 1 + 1 + 1, 3, none⟩ = some (.slice G1 gn1 gc1) by rw [hW1]; exact cell_made (by simp) rfl)
  have G0D := Lib.hid (h0.keep hb1)
  have G1D := Lib.hid (h1.keep hb1)
  have HRC := Lib.hid (show Row W1 (some ⟨w.heap.size + 1, 0, none⟩) (cellsR [(⟨D0, n0, c0, G0, gn0, gc0⟩, ⟨t0, L0, u0, X0⟩), (⟨D1, n1, c1, G1, gn1, gc1⟩, ⟨t1, L1, u1, X1⟩)]) by rw [hW1]; exact (Row.made (by simp) rfl : Row ((w.alloc (.cells #[.slice A n c, .slice B m d] 24)).alloc (.cells #[.int .i64 t0, .slice D0 n0 c0, .int .i64 u0, .slice G0 gn0 gc0, .int .i64 t1, .slice D1 n1 c1, .int .i64 u1, .slice G1 gn1 gc1] 40)) (some ⟨w.heap.size + 1, 0, none⟩) (cellsR [(⟨D0, n0, c0, G0, gn0, gc0⟩, ⟨t0, L0, u0, X0⟩), (⟨D1, n1, c1, G1, gn1, gc1⟩, ⟨t1, L1, u1, X1⟩)])).keep (Nat.le_refl _) (bpush (bpush (Below.refl _ _) _) _))
  have HRG := Lib.hid (show ∀ z ∈ [(⟨D0, n0, c0, G0, gn0, gc0⟩, ⟨t0, L0, u0, X0⟩), (⟨D1, n1, c1, G1, gn1, gc1⟩, ⟨t1, L1, u1, X1⟩)], Good0 W1 z by
    intro z hz
    simp only [List.mem_cons, List.not_mem_nil, or_false] at hz
    rcases hz with rfl | rfl
    · exact G0D.out
    · exact G1D.out)
  obtain ⟨r, hr⟩ := bool_of (fitsRows L M [⟨t0, L0, u0, X0⟩, ⟨t1, L1, u1, X1⟩])
  have HR := Lib.hid hr
  have HFT := Lib.hid (show ∀ W, Below W1.heap.size W1 W → Calls Try.prog 8 #[.agg #[.slice A n c, .slice B m d], .slice (some ⟨w.heap.size + 1, 0, none⟩) 2 2] W fun e w' => e = .returned (.bool r) ∧ Below W.heap.size W w' from fun W hW =>
    fitsrows_any A B (some ⟨w.heap.size + 1, 0, none⟩) n c m d 2 2 L M [(⟨D0, n0, c0, G0, gn0, gc0⟩, ⟨t0, L0, u0, X0⟩), (⟨D1, n1, c1, G1, gn1, gc1⟩, ⟨t1, L1, u1, X1⟩)] W (hA.keep (Nat.le_refl _) (bthen hb1 hW)) (hB.keep (Nat.le_refl _) (bthen hb1 hW)) (HRC.out.keep (Nat.le_refl _) hW) (fun z hz => (HRG.out z hz).keep hW) hn hm rfl hnc hmd ha hb hL hM hn2 hm2 (by decide) (by
      intro z hz
      simp only [List.mem_cons, List.not_mem_nil, or_false] at hz
      rcases hz with rfl | rfl
      · exact z0
      · exact z1) r hr)
  have HW1 := Lib.hid hW1
  clear hA hB hn hm hnc hmd ha hb hL hM hn2 hm2 hr hW1 hb1 h0 z0 h1 z1
  have HBW := Lib.hid (Below.refl W1.heap.size W1)
  have s0 := cell_on HBW.out S0C.out
  have s1 := cell_on HBW.out S1C.out
  have a0 := cell_on HBW.out A0C.out
  have a1 := cell_on HBW.out A1C.out
  have a2 := cell_on HBW.out A2C.out
  have a3 := cell_on HBW.out A3C.out
  have b0 := cell_on HBW.out B0C.out
  have b1 := cell_on HBW.out B1C.out
  have b2 := cell_on HBW.out B2C.out
  have b3 := cell_on HBW.out B3C.out
  go_enter Try.func4, Try.ntmps4
  go_wp2_with fail
  rw [← HW1.out]
  clear HW1
  refine wp_region_held_drew (S := fun w' => Below W1.heap.size W1 w') (by kernel_rfl) (below_drewN (Below.refl _ _) 1) ?_
  intro hHeld
  refine take_want (i := 0) (v := ?v0k1) rfl (by kernel_rfl) (by kernel_rfl) (by kernel_rfl) (fun _ _ _ h => h) (by rfl) ?y0k1 (by assumption) ?r0k1
  case y0k1 => (intro w hSw; have q0 := cell_on hSw s0; have q1 := cell_on hSw s1; go_simp; all_goals with_reducible rfl)
  (try simp only [Act.put, List.setIfInBounds_toArray, List.set_cons_zero, List.set_cons_succ])
  refine take_want (i := 1) (v := ?v1k1) rfl (by kernel_rfl) (by kernel_rfl) (by kernel_rfl) (fun _ _ _ h => h) (by rfl) ?y1k1 (by assumption) ?r1k1
  case y1k1 => (intro w hSw; go_simp; all_goals with_reducible rfl)
  (try simp only [Act.put, List.setIfInBounds_toArray, List.set_cons_zero, List.set_cons_succ])
  refine wpAnyH_ready (rs := [2]) (by kernel_rfl) (by simp) ?_
  refine AllReadyH.cons rfl (fun K hK => ?_) AllReadyH.nil
  go_simp
  (go_at_call 8; refine (HFT.out _ hHeld).mono ?_; rintro e w7 ⟨rfl, hb⟩)
  refine hK.out _ _ (bthen hHeld hb) (fun hHeld => ?_)
  clear hK K
  (try simp only [Act.put, List.setIfInBounds_toArray, List.set_cons_zero, List.set_cons_succ])
  refine take_want (i := 3) (v := ?v3k1) rfl (by kernel_rfl) (by kernel_rfl) (by kernel_rfl) (fun _ _ _ h => h) (by rfl) ?y3k1 (by assumption) ?r3k1
  case y3k1 => (intro w hSw; go_simp; all_goals with_reducible rfl)
  (try simp only [Act.put, List.setIfInBounds_toArray, List.set_cons_zero, List.set_cons_succ])
  refine wpAnyH_done (by kernel_rfl) ?_ _
  have HBW := Lib.hid hHeld
  clear hHeld HFT
  clear s0 s1 a0 a1 a2 a3 b0 b1 b2 b3
  cases r with
  | false =>
    go_wp2_with fail
    go_at_call 10
    refine (alive_any _).mono ?_
    rintro e w8 ⟨rfl, hb⟩
    have HBW := Lib.hid (bthen HBW.out hb)
    clear hb
    go_wp2_with fail
    go_ret
    exact ⟨rfl, bthen HB1.out HBW.out⟩
  | true =>
  have HOK := Lib.hid (HR.out.1 rfl).2.2.2.2
  have hl20 := (HR.out.1 rfl).1.1
  have hm20 := (HR.out.1 rfl).2.1.1
  have r0 := HOK.out ⟨t0, L0, u0, X0⟩ (by simp)
  have r1 := HOK.out ⟨t1, L1, u1, X1⟩ (by simp)
  have hlen : L0.length = L1.length := by rw [r0.1, r1.1]
  have hK0 : 0 ≤ u0 ∧ u0 ≤ 1048576 := ⟨by have := r0.2.2.2.2.1; simp only at this; omega, r0.2.2.2.2.2.1⟩
  have hK1 : 0 ≤ u1 ∧ u1 ≤ 1048576 := ⟨by have := r1.2.2.2.2.1; simp only at this; omega, r1.2.2.2.2.2.1⟩
  have HGa := Lib.hid (show ∀ W, Below W1.heap.size W1 W → Good W (⟨D0, n0, c0, G0, gn0, gc0⟩, ⟨t0, L0, u0, X0⟩) from fun W hW => (G0D.out.keep hW).good (by show L0.length ≤ _; rw [r0.1]; omega) (by show X0.length ≤ _; rw [r0.2.1]; omega))
  have HGb := Lib.hid (show ∀ W, Below W1.heap.size W1 W → Good W (⟨D1, n1, c1, G1, gn1, gc1⟩, ⟨t1, L1, u1, X1⟩) from fun W hW => (G1D.out.keep hW).good (by show L1.length ≤ _; rw [r1.1]; omega) (by show X1.length ≤ _; rw [r1.2.1]; omega))
  obtain ⟨⟨rr, er⟩, hjr⟩ : ∃ z, z = joinR ⟨t0, L0, u0, X0⟩ ⟨t1, L1, u1, X1⟩ := ⟨_, rfl⟩
  have HJ1 := Lib.hid (show ∀ W, Below W1.heap.size W1 W → Calls Try.prog 18 #[.agg #[.int .i64 t0, .slice D0 n0 c0, .int .i64 u0, .slice G0 gn0 gc0], .agg #[.int .i64 t1, .slice D1 n1 c1, .int .i64 u1, .slice G1 gn1 gc1]] W (JoinPost W (rr, er)) from fun W hW => by
    rw [hjr]; exact join_any (⟨D0, n0, c0, G0, gn0, gc0⟩, ⟨t0, L0, u0, X0⟩) (⟨D1, n1, c1, G1, gn1, gc1⟩, ⟨t1, L1, u1, X1⟩) W (HGa.out W hW) (HGb.out W hW) hK0 hK1)
  have HJ2 := Lib.hid (show ∀ W, Below W1.heap.size W1 W → Calls Try.prog 19 #[.agg #[.int .i64 t0, .slice D0 n0 c0, .int .i64 u0, .slice G0 gn0 gc0], .agg #[.int .i64 t1, .slice D1 n1 c1, .int .i64 u1, .slice G1 gn1 gc1]] W (JoinPost W (rr, er)) from fun W hW => by
    rw [hjr]; exact refjoin_any (⟨D0, n0, c0, G0, gn0, gc0⟩, ⟨t0, L0, u0, X0⟩) (⟨D1, n1, c1, G1, gn1, gc1⟩, ⟨t1, L1, u1, X1⟩) W (HGa.out W hW) (HGb.out W hW) hK0 hK1 (by show X0.length = X1.length; rw [r0.2.1, r1.2.1]) r0.2.2.2.2.2.2.2 r1.2.2.2.2.2.2.2)
  obtain ⟨cv, hav⟩ : ∃ a, a = cmpK t0 t1 L0 L1 := ⟨_, rfl⟩
  have HAV := Lib.hid hav
  have H3 : cv = -1 ∨ cv = 0 ∨ cv = 1 := by rw [hav]; exact cmpV_three ⟨t0, L0, u0, X0⟩ ⟨t1, L1, u1, X1⟩
  have HCV := Lib.hid (show ∀ W, Below W1.heap.size W1 W → Calls Try.prog 21 #[.agg #[.int .i64 t0, .slice D0 n0 c0, .int .i64 u0, .slice G0 gn0 gc0], .agg #[.int .i64 t1, .slice D1 n1 c1, .int .i64 u1, .slice G1 gn1 gc1]] W fun e w' => e = .returned (.int .i64 cv) ∧ Below W.heap.size W w' from fun W hW => by
    rw [hav]; exact compare_any t0 t1 u0 u1 D0 D1 G0 G1 n0 c0 n1 c1 gn0 gc0 gn1 gc1 L0 L1 W ((G0D.out.keep hW).rd) ((G1D.out.keep hW).rd) G0D.out.nd G1D.out.nd G0D.out.sd G1D.out.sd)
  have HLG := Lib.hid (show ∀ W, Below W1.heap.size W1 W → Calls Try.prog 17 #[.agg #[.int .i64 t0, .slice D0 n0 c0, .int .i64 u0, .slice G0 gn0 gc0], .agg #[.int .i64 t1, .slice D1 n1 c1, .int .i64 u1, .slice G1 gn1 gc1]] W fun e w' => e = .returned (.bool (decide (cmpK t0 t1 L0 L1 < 0))) ∧ Below W.heap.size W w' from fun W hW => by
    rw [← lessK_cmpK t0 t1 L0 L1 hlen]
    exact less_any t0 t1 u0 u1 D0 D1 G0 G1 n0 c0 n1 c1 gn0 gc0 gn1 gc1 L0 L1 W ((G0D.out.keep hW).rd) ((G1D.out.keep hW).rd) G0D.out.nd G1D.out.nd G0D.out.sd G1D.out.sd)
  have HLH := Lib.hid (show ∀ W, Below W1.heap.size W1 W → Calls Try.prog 17 #[.agg #[.int .i64 t1, .slice D1 n1 c1, .int .i64 u1, .slice G1 gn1 gc1], .agg #[.int .i64 t0, .slice D0 n0 c0, .int .i64 u0, .slice G0 gn0 gc0]] W fun e w' => e = .returned (.bool (decide (- cmpK t0 t1 L0 L1 < 0))) ∧ Below W.heap.size W w' from fun W hW => by
    rw [← cmpK_swap, ← lessK_cmpK t1 t0 L1 L0 hlen.symm]
    exact less_any t1 t0 u1 u0 D1 D0 G1 G0 n1 c1 n0 c0 gn1 gc1 gn0 gc0 L1 L0 W ((G1D.out.keep hW).rd) ((G0D.out.keep hW).rd) G1D.out.nd G0D.out.nd G1D.out.sd G0D.out.sd)
  obtain ⟨sb, hsb⟩ := bool_of ((⟨t0, L0, u0, X0⟩ : RV) = ⟨t1, L1, u1, X1⟩)
  have HSB := Lib.hid hsb
  have HOB := Lib.hid (show ∀ W, Below W1.heap.size W1 W → Calls Try.prog 15 #[.agg #[.int .i64 t0, .slice D0 n0 c0, .int .i64 u0, .slice G0 gn0 gc0], .agg #[.int .i64 t1, .slice D1 n1 c1, .int .i64 u1, .slice G1 gn1 gc1]] W fun e w' => e = .returned (.bool sb) ∧ Below W.heap.size W w' from fun W hW =>
    refrow_any t0 t1 u0 u1 D0 D1 G0 G1 n0 c0 n1 c1 gn0 gc0 gn1 gc1 L0 L1 X0 X1 W (G0D.out.keep hW).rd (G1D.out.keep hW).rd (G0D.out.keep hW).rg (G1D.out.keep hW).rg G0D.out.nd G1D.out.nd G0D.out.ng G1D.out.ng G0D.out.sd G1D.out.sd G0D.out.sg G1D.out.sg sb (by rw [hsb, RV.one]))
  clear r0 r1 hjr hav hsb HOK HR hl20 hm20 hlen hK0 hK1
  have s0 := cell_on HBW.out S0C.out
  have s1 := cell_on HBW.out S1C.out
  have a0 := cell_on HBW.out A0C.out
  have a1 := cell_on HBW.out A1C.out
  have a2 := cell_on HBW.out A2C.out
  have a3 := cell_on HBW.out A3C.out
  have b0 := cell_on HBW.out B0C.out
  have b1 := cell_on HBW.out B1C.out
  have b2 := cell_on HBW.out B2C.out
  have b3 := cell_on HBW.out B3C.out
  go_wp2_with fail
  go_at_call 16
  refine (copy_any (some ⟨w.heap.size + 1, 0, none⟩) 2 2 [(⟨D0, n0, c0, G0, gn0, gc0⟩, ⟨t0, L0, u0, X0⟩), (⟨D1, n1, c1, G1, gn1, gc1⟩, ⟨t1, L1, u1, X1⟩)] _ ⟨HRC.out.keep (Nat.le_refl _) HBW.out, by
    intro z hz
    simp only [List.mem_cons, List.not_mem_nil, or_false] at hz
    rcases hz with rfl | rfl
    · exact HGa.out _ HBW.out
    · exact HGb.out _ HBW.out⟩ rfl (by decide)).mono ?_
  rintro e w9 ⟨v9, Y9, rfl, ho9, hm9, hy9, hb⟩
  obtain ⟨hn9, A9, c9, rfl, hr9, hc9, hx9, ha9⟩ := own_sliceR ho9
  have HBW := Lib.hid (bthen HBW.out hb)
  have HRY := Lib.hid (show RowsC w9 A9 Y9 from ⟨hr9, fun y hy => (hy9 y hy).good⟩)
  have HMY := Lib.hid (show Y9.map Prod.snd = [⟨t0, L0, u0, X0⟩, ⟨t1, L1, u1, X1⟩] from hm9)
  have HSA := Lib.hid (show ∀ W, Below w9.heap.size w9 W → Below W1.heap.size W1 W → Calls Try.prog 20 #[.slice A9 2 c9, .slice (some ⟨w.heap.size + 1, 0, none⟩) 2 2] W fun e w' => e = .returned (.bool true) ∧ Below W.heap.size W w' from fun W hW hW2 =>
    refrows_any A9 (some ⟨w.heap.size + 1, 0, none⟩) 2 c9 2 2 (Y9.map Prod.snd) [⟨t0, L0, u0, X0⟩, ⟨t1, L1, u1, X1⟩] W (HRY.out.keep hW).rowsM (rowsM0 (HRC.out.keep (Nat.le_refl _) hW2) (fun z hz => (HRG.out z hz).keep hW2)) (by rw [HMY.out]; rfl) rfl (by decide) (by decide) true ⟨fun _ => HMY.out, fun _ => rfl⟩)
  have HB9 := Lib.hid (Below.refl w9.heap.size w9)
  clear ho9 hm9 hy9 hb hn9 hr9 hc9 hx9 ha9
  clear s0 s1 a0 a1 a2 a3 b0 b1 b2 b3
  have s0 := cell_on HBW.out S0C.out
  have s1 := cell_on HBW.out S1C.out
  have a0 := cell_on HBW.out A0C.out
  have a1 := cell_on HBW.out A1C.out
  have a2 := cell_on HBW.out A2C.out
  have a3 := cell_on HBW.out A3C.out
  have b0 := cell_on HBW.out B0C.out
  have b1 := cell_on HBW.out B1C.out
  have b2 := cell_on HBW.out B2C.out
  have b3 := cell_on HBW.out B3C.out
  rcases H3 with rfl | rfl | rfl
  · skip
    have HLA := Lib.hid (show ∀ W, Below W1.heap.size W1 W → Calls Try.prog 17 #[.agg #[.int .i64 t0, .slice D0 n0 c0, .int .i64 u0, .slice G0 gn0 gc0], .agg #[.int .i64 t1, .slice D1 n1 c1, .int .i64 u1, .slice G1 gn1 gc1]] W fun e w' => e = .returned (.bool true) ∧ Below W.heap.size W w' from fun W hW => by have h := HLG.out W hW; rw [← HAV.out] at h; exact h)
    have HLB := Lib.hid (show ∀ W, Below W1.heap.size W1 W → Calls Try.prog 17 #[.agg #[.int .i64 t1, .slice D1 n1 c1, .int .i64 u1, .slice G1 gn1 gc1], .agg #[.int .i64 t0, .slice D0 n0 c0, .int .i64 u0, .slice G0 gn0 gc0]] W fun e w' => e = .returned (.bool false) ∧ Below W.heap.size W w' from fun W hW => by have h := HLH.out W hW; rw [← HAV.out] at h; exact h)
    clear HAV HLG HLH
    go_wp2_with fail
    go_at_call 17
    refine (HLA.out _ HBW.out).mono ?_
    rintro e w10 ⟨rfl, hb⟩
    have HBW := Lib.hid (bthen HBW.out hb)
    have HB9 := Lib.hid (bthen HB9.out hb)
    clear hb
    clear s0 s1 a0 a1 a2 a3 b0 b1 b2 b3
    have s0 := cell_on HBW.out S0C.out
    have s1 := cell_on HBW.out S1C.out
    have a0 := cell_on HBW.out A0C.out
    have a1 := cell_on HBW.out A1C.out
    have a2 := cell_on HBW.out A2C.out
    have a3 := cell_on HBW.out A3C.out
    have b0 := cell_on HBW.out B0C.out
    have b1 := cell_on HBW.out B1C.out
    have b2 := cell_on HBW.out B2C.out
    have b3 := cell_on HBW.out B3C.out
    go_wp2_with fail
    go_at_call 17
    refine (HLB.out _ HBW.out).mono ?_
    rintro e w11 ⟨rfl, hb⟩
    have HBW := Lib.hid (bthen HBW.out hb)
    have HB9 := Lib.hid (bthen HB9.out hb)
    clear hb
    clear s0 s1 a0 a1 a2 a3 b0 b1 b2 b3
    have s0 := cell_on HBW.out S0C.out
    have s1 := cell_on HBW.out S1C.out
    have a0 := cell_on HBW.out A0C.out
    have a1 := cell_on HBW.out A1C.out
    have a2 := cell_on HBW.out A2C.out
    have a3 := cell_on HBW.out A3C.out
    have b0 := cell_on HBW.out B0C.out
    have b1 := cell_on HBW.out B1C.out
    have b2 := cell_on HBW.out B2C.out
    have b3 := cell_on HBW.out B3C.out
    go_wp2_with fail
    go_at_call 18
    refine (HJ1.out _ HBW.out).mono ?_
    rintro e w12 ⟨⟨⟨D3, n3, c3, G3, gn3, gc3⟩, ⟨t3, L3, u3, X3⟩⟩, rfl, hz3, ho3, hb⟩
    simp only [encR_eq]
    have HZ3 := Lib.hid (show (⟨t3, L3, u3, X3⟩ : RV) = rr from hz3)
    obtain ⟨d1, hd1⟩ : ∃ d1, d1 = w12.alloc (.cells #[.int .i64 t3, .slice D3 n3 c3, .int .i64 u3, .slice G3 gn3 gc3] 27) := ⟨_, rfl⟩
    have hbd : Below w12.heap.size w12 d1 := by rw [hd1]; exact bpush (Below.refl _ _) _
    have HBX3 := Lib.hid (show Bx4 d1 w12.heap.size (.int .i64 t3) (.slice D3 n3 c3) (.int .i64 u3) (.slice G3 gn3 gc3) by rw [hd1]; exact Bx4.made)
    have HG3 := Lib.hid (show Good d1 (⟨D3, n3, c3, G3, gn3, gc3⟩, ⟨t3, L3, u3, X3⟩) from ho3.good.keep hbd)
    have HBW := Lib.hid (bthen (bthen HBW.out hb) hbd)
    have HB9 := Lib.hid (bthen (bthen HB9.out hb) hbd)
    have hWC := hd1.symm
    clear hz3 ho3 hb hbd hd1
    clear s0 s1 a0 a1 a2 a3 b0 b1 b2 b3
    have s0 := cell_on HBW.out S0C.out
    have s1 := cell_on HBW.out S1C.out
    have a0 := cell_on HBW.out A0C.out
    have a1 := cell_on HBW.out A1C.out
    have a2 := cell_on HBW.out A2C.out
    have a3 := cell_on HBW.out A3C.out
    have b0 := cell_on HBW.out B0C.out
    have b1 := cell_on HBW.out B1C.out
    have b2 := cell_on HBW.out B2C.out
    have b3 := cell_on HBW.out B3C.out
    go_wp2_with fail
    go_at_call 19
    refine (HJ2.out _ HBW.out).mono ?_
    clear hWC
    rintro e w13 ⟨⟨⟨D4, n4, c4, G4, gn4, gc4⟩, ⟨t4, L4, u4, X4⟩⟩, rfl, hz4, ho4, hb⟩
    simp only [encR_eq]
    have HZ4 := Lib.hid (show (⟨t4, L4, u4, X4⟩ : RV) = rr from hz4)
    obtain ⟨d2, hd2⟩ : ∃ d2, d2 = w13.alloc (.cells #[.int .i64 t4, .slice D4 n4 c4, .int .i64 u4, .slice G4 gn4 gc4] 27) := ⟨_, rfl⟩
    have hbd : Below w13.heap.size w13 d2 := by rw [hd2]; exact bpush (Below.refl _ _) _
    have hb2 : Below d1.heap.size d1 d2 := bthen hb hbd
    have HBX4 := Lib.hid (show Bx4 d2 w13.heap.size (.int .i64 t4) (.slice D4 n4 c4) (.int .i64 u4) (.slice G4 gn4 gc4) by rw [hd2]; exact Bx4.made)
    have HG4 := Lib.hid (show Good d2 (⟨D4, n4, c4, G4, gn4, gc4⟩, ⟨t4, L4, u4, X4⟩) from ho4.good.keep hbd)
    have HBX3 := Lib.hid (HBX3.out.keep hb2)
    have HG3 := Lib.hid (HG3.out.keep hb2)
    have HBW := Lib.hid (bthen HBW.out hb2)
    have HB9 := Lib.hid (bthen HB9.out hb2)
    have HD2 := Lib.hid hd2
    clear hz4 ho4 hb hbd hd2 hb2
    go_wp2_with fail
    rw [← HD2.out]
    clear HD2
    go_at_call 20
    refine (HSA.out _ HB9.out HBW.out).mono ?_
    rintro e d ⟨rfl, hb⟩
    have HBX3 := Lib.hid (HBX3.out.keep hb)
    have HG3 := Lib.hid (HG3.out.keep hb)
    have HBX4 := Lib.hid (HBX4.out.keep hb)
    have HG4 := Lib.hid (HG4.out.keep hb)
    have HBW := Lib.hid (bthen HBW.out hb)
    have HB9 := Lib.hid (bthen HB9.out hb)
    clear hb
    clear s0 s1 a0 a1 a2 a3 b0 b1 b2 b3
    have s0 := cell_on HBW.out S0C.out
    have s1 := cell_on HBW.out S1C.out
    have a0 := cell_on HBW.out A0C.out
    have a1 := cell_on HBW.out A1C.out
    have a2 := cell_on HBW.out A2C.out
    have a3 := cell_on HBW.out A3C.out
    have b0 := cell_on HBW.out B0C.out
    have b1 := cell_on HBW.out B1C.out
    have b2 := cell_on HBW.out B2C.out
    have b3 := cell_on HBW.out B3C.out
    obtain ⟨p0, p1, p2, p3, pf3⟩ := HBX3.out
    obtain ⟨q0, q1, q2, q3, qf3⟩ := HBX4.out
    have HON := Lib.hid (show ∀ W, Below d.heap.size d W → Calls Try.prog 15 #[.agg #[.int .i64 t3, .slice D3 n3 c3, .int .i64 u3, .slice G3 gn3 gc3], .agg #[.int .i64 t4, .slice D4 n4 c4, .int .i64 u4, .slice G4 gn4 gc4]] W fun e w' => e = .returned (.bool true) ∧ Below W.heap.size W w' from fun W hW =>
      refrow_any t3 t4 u3 u4 D3 D4 G3 G4 n3 c3 n4 c4 gn3 gc3 gn4 gc4 L3 L4 X3 X4 W (HG3.out.rd.keep (Nat.le_refl _) hW) (HG4.out.rd.keep (Nat.le_refl _) hW) (HG3.out.rg.keep (Nat.le_refl _) hW) (HG4.out.rg.keep (Nat.le_refl _) hW) HG3.out.nd HG4.out.nd HG3.out.ng HG4.out.ng (by have := HG3.out.sd; simp only at this; omega) (by have := HG4.out.sd; simp only at this; omega) (by have := HG3.out.sg; simp only at this; omega) (by have := HG4.out.sg; simp only at this; omega) true ⟨fun _ => by
        obtain ⟨e1, e2, e3, e4⟩ := RV.mk.inj (HZ3.out.trans HZ4.out.symm)
        exact ⟨⟨e2, e1⟩, e4, e3⟩, fun _ => rfl⟩)
    go_wp2_with fail
    refine wp_region_held_drew (S := fun w' => Below d.heap.size d w') (by kernel_rfl) (below_drewN (Below.refl _ _) 1) ?_
    intro hHeld
    refine wpAnyH_ready (rs := [0]) (by kernel_rfl) (by simp) ?_
    refine AllReadyH.cons rfl (fun K hK => ?_) AllReadyH.nil
    go_simp
    (go_at_call 10; refine (alive_any _).mono ?_; rintro e w20 ⟨rfl, hb⟩)
    refine hK.out _ _ (bthen hHeld hb) (fun hHeld => ?_)
    clear hK K
    (try simp only [Act.put, List.setIfInBounds_toArray, List.set_cons_zero, List.set_cons_succ])
    refine take_want (i := 1) (v := ?v1k2) rfl (by kernel_rfl) (by kernel_rfl) (by kernel_rfl) (fun _ _ _ h => h) (by rfl) ?y1k2 (by assumption) ?r1k2
    case y1k2 => (intro w hSw; go_simp; all_goals with_reducible rfl)
    (try simp only [Act.put, List.setIfInBounds_toArray, List.set_cons_zero, List.set_cons_succ])
    refine take_want (i := 2) (v := ?v2k2) rfl (by kernel_rfl) (by kernel_rfl) (by kernel_rfl) (fun _ _ _ h => h) (by rfl) ?y2k2 (by assumption) ?r2k2
    case y2k2 => (intro w hSw; have m0 := cell_on hSw a0; have m1 := cell_on hSw a1; have m2 := cell_on hSw a2; have m3 := cell_on hSw a3; have m4 := cell_on hSw b0; have m5 := cell_on hSw b1; have m6 := cell_on hSw b2; have m7 := cell_on hSw b3; go_simp; all_goals with_reducible rfl)
    (try simp only [Act.put, List.setIfInBounds_toArray, List.set_cons_zero, List.set_cons_succ])
    refine take_want (i := 3) (v := ?v3k2) rfl (by kernel_rfl) (by kernel_rfl) (by kernel_rfl) (fun _ _ _ h => h) (by rfl) ?y3k2 (by assumption) ?r3k2
    case y3k2 => (intro w hSw; have m0 := cell_on hSw a0; have m1 := cell_on hSw a1; have m2 := cell_on hSw a2; have m3 := cell_on hSw a3; have m4 := cell_on hSw b0; have m5 := cell_on hSw b1; have m6 := cell_on hSw b2; have m7 := cell_on hSw b3; go_simp; all_goals with_reducible rfl)
    (try simp only [Act.put, List.setIfInBounds_toArray, List.set_cons_zero, List.set_cons_succ])
    refine take_want (i := 5) (v := ?v5k2) rfl (by kernel_rfl) (by kernel_rfl) (by kernel_rfl) (fun _ _ _ h => h) (by rfl) ?y5k2 (by assumption) ?r5k2
    case y5k2 => (intro w hSw; go_simp; all_goals with_reducible rfl)
    (try simp only [Act.put, List.setIfInBounds_toArray, List.set_cons_zero, List.set_cons_succ])
    refine wpAnyH_ready (rs := [4]) (by kernel_rfl) (by simp) ?_
    refine AllReadyH.cons rfl (fun K hK => ?_) AllReadyH.nil
    go_simp
    (go_at_call 21; refine (HCV.out _ (bthen HBW.out hHeld)).mono ?_; rintro e w21 ⟨rfl, hb⟩)
    refine hK.out _ _ (bthen hHeld hb) (fun hHeld => ?_)
    clear hK K
    (try simp only [Act.put, List.setIfInBounds_toArray, List.set_cons_zero, List.set_cons_succ])
    refine take_want (i := 6) (v := (.bool true)) rfl (by kernel_rfl) (by kernel_rfl) (by kernel_rfl) (fun _ _ _ h => h) (by rfl) ?y6k2 (by assumption) ?r6k2
    case y6k2 => (intro w hSw; go_simp; (try simp))
    (try simp only [Act.put, List.setIfInBounds_toArray, List.set_cons_zero, List.set_cons_succ])
    refine take_want (i := 7) (v := ?v7k2) rfl (by kernel_rfl) (by kernel_rfl) (by kernel_rfl) (fun _ _ _ h => h) (by rfl) ?y7k2 (by assumption) ?r7k2
    case y7k2 => (intro w hSw; go_simp; all_goals with_reducible rfl)
    (try simp only [Act.put, List.setIfInBounds_toArray, List.set_cons_zero, List.set_cons_succ])
    refine take_want (i := 8) (v := ?v8k2) rfl (by kernel_rfl) (by kernel_rfl) (by kernel_rfl) (fun _ _ _ h => h) (by rfl) ?y8k2 (by assumption) ?r8k2
    case y8k2 => (intro w hSw; go_simp; all_goals with_reducible rfl)
    (try simp only [Act.put, List.setIfInBounds_toArray, List.set_cons_zero, List.set_cons_succ])
    refine take_want (i := 9) (v := ?v9k2) rfl (by kernel_rfl) (by kernel_rfl) (by kernel_rfl) (fun _ _ _ h => h) (by rfl) ?y9k2 (by assumption) ?r9k2
    case y9k2 => (intro w hSw; have m0 := cell_on hSw p0; have m1 := cell_on hSw p1; have m2 := cell_on hSw p2; have m3 := cell_on hSw p3; have m4 := cell_on hSw q0; have m5 := cell_on hSw q1; have m6 := cell_on hSw q2; have m7 := cell_on hSw q3; go_simp; all_goals with_reducible rfl)
    (try simp only [Act.put, List.setIfInBounds_toArray, List.set_cons_zero, List.set_cons_succ])
    refine take_want (i := 10) (v := ?v10k2) rfl (by kernel_rfl) (by kernel_rfl) (by kernel_rfl) (fun _ _ _ h => h) (by rfl) ?y10k2 (by assumption) ?r10k2
    case y10k2 => (intro w hSw; have m0 := cell_on hSw p0; have m1 := cell_on hSw p1; have m2 := cell_on hSw p2; have m3 := cell_on hSw p3; have m4 := cell_on hSw q0; have m5 := cell_on hSw q1; have m6 := cell_on hSw q2; have m7 := cell_on hSw q3; go_simp; all_goals with_reducible rfl)
    (try simp only [Act.put, List.setIfInBounds_toArray, List.set_cons_zero, List.set_cons_succ])
    refine wpAnyH_ready (rs := [11]) (by kernel_rfl) (by simp) ?_
    refine AllReadyH.cons rfl (fun K hK => ?_) AllReadyH.nil
    go_simp
    (go_at_call 15; refine (HON.out _ hHeld).mono ?_; rintro e w22 ⟨rfl, hb⟩)
    refine hK.out _ _ (bthen hHeld hb) (fun hHeld => ?_)
    clear hK K
    (try simp only [Act.put, List.setIfInBounds_toArray, List.set_cons_zero, List.set_cons_succ])
    refine take_want (i := 12) (v := ?v12k2) rfl (by kernel_rfl) (by kernel_rfl) (by kernel_rfl) (fun _ _ _ h => h) (by rfl) ?y12k2 (by assumption) ?r12k2
    case y12k2 => (intro w hSw; go_simp; all_goals with_reducible rfl)
    (try simp only [Act.put, List.setIfInBounds_toArray, List.set_cons_zero, List.set_cons_succ])
    refine take_want (i := 13) (v := ?v13k2) rfl (by kernel_rfl) (by kernel_rfl) (by kernel_rfl) (fun _ _ _ h => h) (by rfl) ?y13k2 (by assumption) ?r13k2
    case y13k2 => (intro w hSw; go_simp; all_goals with_reducible rfl)
    (try simp only [Act.put, List.setIfInBounds_toArray, List.set_cons_zero, List.set_cons_succ])
    refine take_want (i := 14) (v := ?v14k2) rfl (by kernel_rfl) (by kernel_rfl) (by kernel_rfl) (fun _ _ _ h => h) (by rfl) ?y14k2 (by assumption) ?r14k2
    case y14k2 => (intro w hSw; go_simp; all_goals with_reducible rfl)
    (try simp only [Act.put, List.setIfInBounds_toArray, List.set_cons_zero, List.set_cons_succ])
    refine take_want (i := 15) (v := ?v15k2) rfl (by kernel_rfl) (by kernel_rfl) (by kernel_rfl) (fun _ _ _ h => h) (by rfl) ?y15k2 (by assumption) ?r15k2
    case y15k2 => (intro w hSw; go_simp; all_goals with_reducible rfl)
    (try simp only [Act.put, List.setIfInBounds_toArray, List.set_cons_zero, List.set_cons_succ])
    refine take_want (i := 16) (v := (.bool true)) rfl (by kernel_rfl) (by kernel_rfl) (by kernel_rfl) (fun _ _ _ h => h) (by rfl) ?y16k2 (by assumption) ?r16k2
    case y16k2 => (intro w hSw; go_simp; (try simp))
    (try simp only [Act.put, List.setIfInBounds_toArray, List.set_cons_zero, List.set_cons_succ])
    refine take_want (i := 17) (v := ?v17k2) rfl (by kernel_rfl) (by kernel_rfl) (by kernel_rfl) (fun _ _ _ h => h) (by rfl) ?y17k2 (by assumption) ?r17k2
    case y17k2 => (intro w hSw; go_simp; all_goals with_reducible rfl)
    (try simp only [Act.put, List.setIfInBounds_toArray, List.set_cons_zero, List.set_cons_succ])
    refine take_want (i := 18) (v := ?v18k2) rfl (by kernel_rfl) (by kernel_rfl) (by kernel_rfl) (fun _ _ _ h => h) (by rfl) ?y18k2 (by assumption) ?r18k2
    case y18k2 => (intro w hSw; go_simp; all_goals with_reducible rfl)
    (try simp only [Act.put, List.setIfInBounds_toArray, List.set_cons_zero, List.set_cons_succ])
    refine take_want (i := 19) (v := ?v19k2) rfl (by kernel_rfl) (by kernel_rfl) (by kernel_rfl) (fun _ _ _ h => h) (by rfl) ?y19k2 (by assumption) ?r19k2
    case y19k2 => (intro w hSw; go_simp; all_goals with_reducible rfl)
    (try simp only [Act.put, List.setIfInBounds_toArray, List.set_cons_zero, List.set_cons_succ])
    refine take_want (i := 20) (v := ?v20k2) rfl (by kernel_rfl) (by kernel_rfl) (by kernel_rfl) (fun _ _ _ h => h) (by rfl) ?y20k2 (by assumption) ?r20k2
    case y20k2 => (intro w hSw; go_simp; all_goals with_reducible rfl)
    (try simp only [Act.put, List.setIfInBounds_toArray, List.set_cons_zero, List.set_cons_succ])
    refine take_want (i := 21) (v := ?v21k2) rfl (by kernel_rfl) (by kernel_rfl) (by kernel_rfl) (fun _ _ _ h => h) (by rfl) ?y21k2 (by assumption) ?r21k2
    case y21k2 => (intro w hSw; go_simp; all_goals with_reducible rfl)
    (try simp only [Act.put, List.setIfInBounds_toArray, List.set_cons_zero, List.set_cons_succ])
    refine take_want (i := 22) (v := ?v22k2) rfl (by kernel_rfl) (by kernel_rfl) (by kernel_rfl) (fun _ _ _ h => h) (by rfl) ?y22k2 (by assumption) ?r22k2
    case y22k2 => (intro w hSw; have m0 := cell_on hSw a0; have m1 := cell_on hSw a1; have m2 := cell_on hSw a2; have m3 := cell_on hSw a3; have m4 := cell_on hSw b0; have m5 := cell_on hSw b1; have m6 := cell_on hSw b2; have m7 := cell_on hSw b3; go_simp; all_goals with_reducible rfl)
    (try simp only [Act.put, List.setIfInBounds_toArray, List.set_cons_zero, List.set_cons_succ])
    refine take_want (i := 24) (v := ?v24k2) rfl (by kernel_rfl) (by kernel_rfl) (by kernel_rfl) (fun _ _ _ h => h) (by rfl) ?y24k2 (by assumption) ?r24k2
    case y24k2 => (intro w hSw; have m0 := cell_on hSw a0; have m1 := cell_on hSw a1; have m2 := cell_on hSw a2; have m3 := cell_on hSw a3; have m4 := cell_on hSw b0; have m5 := cell_on hSw b1; have m6 := cell_on hSw b2; have m7 := cell_on hSw b3; go_simp; all_goals with_reducible rfl)
    (try simp only [Act.put, List.setIfInBounds_toArray, List.set_cons_zero, List.set_cons_succ])
    refine take_want (i := 27) (v := ?v27k2) rfl (by kernel_rfl) (by kernel_rfl) (by kernel_rfl) (fun _ _ _ h => h) (by rfl) ?y27k2 (by assumption) ?r27k2
    case y27k2 => (intro w hSw; have m0 := cell_on hSw a0; have m1 := cell_on hSw a1; have m2 := cell_on hSw a2; have m3 := cell_on hSw a3; have m4 := cell_on hSw b0; have m5 := cell_on hSw b1; have m6 := cell_on hSw b2; have m7 := cell_on hSw b3; go_simp; all_goals with_reducible rfl)
    (try simp only [Act.put, List.setIfInBounds_toArray, List.set_cons_zero, List.set_cons_succ])
    refine take_want (i := 28) (v := ?v28k2) rfl (by kernel_rfl) (by kernel_rfl) (by kernel_rfl) (fun _ _ _ h => h) (by rfl) ?y28k2 (by assumption) ?r28k2
    case y28k2 => (intro w hSw; have m0 := cell_on hSw a0; have m1 := cell_on hSw a1; have m2 := cell_on hSw a2; have m3 := cell_on hSw a3; have m4 := cell_on hSw b0; have m5 := cell_on hSw b1; have m6 := cell_on hSw b2; have m7 := cell_on hSw b3; go_simp; all_goals with_reducible rfl)
    (try simp only [Act.put, List.setIfInBounds_toArray, List.set_cons_zero, List.set_cons_succ])
    refine wpAnyH_ready (rs := [23, 25]) (by kernel_rfl) (by simp) ?_
    refine AllReadyH.cons rfl (fun K hK => ?_) (AllReadyH.cons rfl (fun K hK => ?_) AllReadyH.nil)
    · go_simp
      obtain ⟨x1, hx1⟩ : ∃ x1, x1 = w22.alloc (.cells #[.int .i64 t0, .slice D0 n0 c0, .int .i64 u0, .slice G0 gn0 gc0] 27) := ⟨_, rfl⟩
      have hbx1 : Below w22.heap.size w22 x1 := by rw [hx1]; exact bpush (Below.refl _ _) _
      have HRA := Lib.hid (show Row x1 (some ⟨w22.heap.size, 0, none⟩) (cellsR [(⟨D0, n0, c0, G0, gn0, gc0⟩, ⟨t0, L0, u0, X0⟩)]) by rw [hx1]; exact Row.made rfl rfl)
      rw [← hx1]
      refine hK.out _ _ (bthen hHeld hbx1) (fun hHeld => ?_)
      clear hK K hbx1 hx1
      (try simp only [Act.put, List.setIfInBounds_toArray, List.set_cons_zero, List.set_cons_succ])
      refine wpAnyH_ready (rs := [25]) (by kernel_rfl) (by simp) ?_
      refine AllReadyH.cons rfl (fun K hK => ?_) AllReadyH.nil
      go_simp
      obtain ⟨x2, hx2⟩ : ∃ x2, x2 = x1.alloc (.cells #[.int .i64 t1, .slice D1 n1 c1, .int .i64 u1, .slice G1 gn1 gc1] 27) := ⟨_, rfl⟩
      have hbx2 : Below x1.heap.size x1 x2 := by rw [hx2]; exact bpush (Below.refl _ _) _
      have HRB := Lib.hid (show Row x2 (some ⟨x1.heap.size, 0, none⟩) (cellsR [(⟨D1, n1, c1, G1, gn1, gc1⟩, ⟨t1, L1, u1, X1⟩)]) by rw [hx2]; exact Row.made rfl rfl)
      have HRA := Lib.hid (HRA.out.keep (Nat.le_refl _) hbx2)
      rw [← hx2]
      refine hK.out _ _ (bthen hHeld hbx2) (fun hHeld => ?_)
      clear hK K hbx2 hx2
      (try simp only [Act.put, List.setIfInBounds_toArray, List.set_cons_zero, List.set_cons_succ])
      have hwx := bthen HBW.out hHeld
      have HSM := Lib.hid (same_any (some ⟨w22.heap.size, 0, none⟩) (some ⟨x1.heap.size, 0, none⟩) 1 1 1 1 [⟨t0, L0, u0, X0⟩] [⟨t1, L1, u1, X1⟩] x2 (rowsM0 HRA.out (fun z hz => by rw [List.mem_singleton.1 hz]; exact G0D.out.keep hwx)) (rowsM0 HRB.out (fun z hz => by rw [List.mem_singleton.1 hz]; exact G1D.out.keep hwx)) rfl rfl (by decide) (by decide) sb (by rw [HSB.out]; simp))
      refine wpAnyH_ready (rs := [26]) (by kernel_rfl) (by simp) ?_
      refine AllReadyH.cons rfl (fun K hK => ?_) AllReadyH.nil
      go_simp
      (go_at_call 22; refine HSM.out.mono ?_; rintro e x3 ⟨rfl, hb⟩)
      refine hK.out _ _ (bthen hHeld hb) (fun hHeld => ?_)
      clear hK K
      (try simp only [Act.put, List.setIfInBounds_toArray, List.set_cons_zero, List.set_cons_succ])
      refine wpAnyH_ready (rs := [29]) (by kernel_rfl) (by simp) ?_
      refine AllReadyH.cons rfl (fun K hK => ?_) AllReadyH.nil
      go_simp
      (go_at_call 15; refine (HOB.out _ (bthen HBW.out hHeld)).mono ?_; rintro e x4 ⟨rfl, hb⟩)
      refine hK.out _ _ (bthen hHeld hb) (fun hHeld => ?_)
      clear hK K
      (try simp only [Act.put, List.setIfInBounds_toArray, List.set_cons_zero, List.set_cons_succ])
      refine take_want (i := 30) (v := (.bool true)) rfl (by kernel_rfl) (by kernel_rfl) (by kernel_rfl) (fun _ _ _ h => h) (by rfl) ?y30k3 (by assumption) ?r30k3
      case y30k3 => (intro w hSw; go_simp; (try simp))
      (try simp only [Act.put, List.setIfInBounds_toArray, List.set_cons_zero, List.set_cons_succ])
      refine take_want (i := 31) (v := ?v31k3) rfl (by kernel_rfl) (by kernel_rfl) (by kernel_rfl) (fun _ _ _ h => h) (by rfl) ?y31k3 (by assumption) ?r31k3
      case y31k3 => (intro w hSw; go_simp; all_goals with_reducible rfl)
      (try simp only [Act.put, List.setIfInBounds_toArray, List.set_cons_zero, List.set_cons_succ])
      refine take_want (i := 32) (v := ?v32k3) rfl (by kernel_rfl) (by kernel_rfl) (by kernel_rfl) (fun _ _ _ h => h) (by rfl) ?y32k3 (by assumption) ?r32k3
      case y32k3 => (intro w hSw; go_simp; all_goals with_reducible rfl)
      (try simp only [Act.put, List.setIfInBounds_toArray, List.set_cons_zero, List.set_cons_succ])
      refine wpAnyH_done (by kernel_rfl) ?_ _
      go_wp2_with fail
      go_ret
      exact ⟨rfl, bthen HB1.out (bthen HBW.out hHeld)⟩
    · go_simp
      obtain ⟨x1, hx1⟩ : ∃ x1, x1 = w22.alloc (.cells #[.int .i64 t1, .slice D1 n1 c1, .int .i64 u1, .slice G1 gn1 gc1] 27) := ⟨_, rfl⟩
      have hbx1 : Below w22.heap.size w22 x1 := by rw [hx1]; exact bpush (Below.refl _ _) _
      have HRA := Lib.hid (show Row x1 (some ⟨w22.heap.size, 0, none⟩) (cellsR [(⟨D1, n1, c1, G1, gn1, gc1⟩, ⟨t1, L1, u1, X1⟩)]) by rw [hx1]; exact Row.made rfl rfl)
      rw [← hx1]
      refine hK.out _ _ (bthen hHeld hbx1) (fun hHeld => ?_)
      clear hK K hbx1 hx1
      (try simp only [Act.put, List.setIfInBounds_toArray, List.set_cons_zero, List.set_cons_succ])
      refine wpAnyH_ready (rs := [23]) (by kernel_rfl) (by simp) ?_
      refine AllReadyH.cons rfl (fun K hK => ?_) AllReadyH.nil
      go_simp
      obtain ⟨x2, hx2⟩ : ∃ x2, x2 = x1.alloc (.cells #[.int .i64 t0, .slice D0 n0 c0, .int .i64 u0, .slice G0 gn0 gc0] 27) := ⟨_, rfl⟩
      have hbx2 : Below x1.heap.size x1 x2 := by rw [hx2]; exact bpush (Below.refl _ _) _
      have HRB := Lib.hid (show Row x2 (some ⟨x1.heap.size, 0, none⟩) (cellsR [(⟨D0, n0, c0, G0, gn0, gc0⟩, ⟨t0, L0, u0, X0⟩)]) by rw [hx2]; exact Row.made rfl rfl)
      have HRA := Lib.hid (HRA.out.keep (Nat.le_refl _) hbx2)
      rw [← hx2]
      refine hK.out _ _ (bthen hHeld hbx2) (fun hHeld => ?_)
      clear hK K hbx2 hx2
      (try simp only [Act.put, List.setIfInBounds_toArray, List.set_cons_zero, List.set_cons_succ])
      have hwx := bthen HBW.out hHeld
      have HSM := Lib.hid (same_any (some ⟨x1.heap.size, 0, none⟩) (some ⟨w22.heap.size, 0, none⟩) 1 1 1 1 [⟨t0, L0, u0, X0⟩] [⟨t1, L1, u1, X1⟩] x2 (rowsM0 HRB.out (fun z hz => by rw [List.mem_singleton.1 hz]; exact G0D.out.keep hwx)) (rowsM0 HRA.out (fun z hz => by rw [List.mem_singleton.1 hz]; exact G1D.out.keep hwx)) rfl rfl (by decide) (by decide) sb (by rw [HSB.out]; simp))
      refine wpAnyH_ready (rs := [26]) (by kernel_rfl) (by simp) ?_
      refine AllReadyH.cons rfl (fun K hK => ?_) AllReadyH.nil
      go_simp
      (go_at_call 22; refine HSM.out.mono ?_; rintro e x3 ⟨rfl, hb⟩)
      refine hK.out _ _ (bthen hHeld hb) (fun hHeld => ?_)
      clear hK K
      (try simp only [Act.put, List.setIfInBounds_toArray, List.set_cons_zero, List.set_cons_succ])
      refine wpAnyH_ready (rs := [29]) (by kernel_rfl) (by simp) ?_
      refine AllReadyH.cons rfl (fun K hK => ?_) AllReadyH.nil
      go_simp
      (go_at_call 15; refine (HOB.out _ (bthen HBW.out hHeld)).mono ?_; rintro e x4 ⟨rfl, hb⟩)
      refine hK.out _ _ (bthen hHeld hb) (fun hHeld => ?_)
      clear hK K
      (try simp only [Act.put, List.setIfInBounds_toArray, List.set_cons_zero, List.set_cons_succ])
      refine take_want (i := 30) (v := (.bool true)) rfl (by kernel_rfl) (by kernel_rfl) (by kernel_rfl) (fun _ _ _ h => h) (by rfl) ?y30k4 (by assumption) ?r30k4
      case y30k4 => (intro w hSw; go_simp; (try simp))
      (try simp only [Act.put, List.setIfInBounds_toArray, List.set_cons_zero, List.set_cons_succ])
      refine take_want (i := 31) (v := ?v31k4) rfl (by kernel_rfl) (by kernel_rfl) (by kernel_rfl) (fun _ _ _ h => h) (by rfl) ?y31k4 (by assumption) ?r31k4
      case y31k4 => (intro w hSw; go_simp; all_goals with_reducible rfl)
      (try simp only [Act.put, List.setIfInBounds_toArray, List.set_cons_zero, List.set_cons_succ])
      refine take_want (i := 32) (v := ?v32k4) rfl (by kernel_rfl) (by kernel_rfl) (by kernel_rfl) (fun _ _ _ h => h) (by rfl) ?y32k4 (by assumption) ?r32k4
      case y32k4 => (intro w hSw; go_simp; all_goals with_reducible rfl)
      (try simp only [Act.put, List.setIfInBounds_toArray, List.set_cons_zero, List.set_cons_succ])
      refine wpAnyH_done (by kernel_rfl) ?_ _
      go_wp2_with fail
      go_ret
      exact ⟨rfl, bthen HB1.out (bthen HBW.out hHeld)⟩
  · skip
    have HLA := Lib.hid (show ∀ W, Below W1.heap.size W1 W → Calls Try.prog 17 #[.agg #[.int .i64 t0, .slice D0 n0 c0, .int .i64 u0, .slice G0 gn0 gc0], .agg #[.int .i64 t1, .slice D1 n1 c1, .int .i64 u1, .slice G1 gn1 gc1]] W fun e w' => e = .returned (.bool false) ∧ Below W.heap.size W w' from fun W hW => by have h := HLG.out W hW; rw [← HAV.out] at h; exact h)
    have HLB := Lib.hid (show ∀ W, Below W1.heap.size W1 W → Calls Try.prog 17 #[.agg #[.int .i64 t1, .slice D1 n1 c1, .int .i64 u1, .slice G1 gn1 gc1], .agg #[.int .i64 t0, .slice D0 n0 c0, .int .i64 u0, .slice G0 gn0 gc0]] W fun e w' => e = .returned (.bool false) ∧ Below W.heap.size W w' from fun W hW => by have h := HLH.out W hW; rw [← HAV.out] at h; exact h)
    clear HAV HLG HLH
    go_wp2_with fail
    go_at_call 17
    refine (HLA.out _ HBW.out).mono ?_
    rintro e w10 ⟨rfl, hb⟩
    have HBW := Lib.hid (bthen HBW.out hb)
    have HB9 := Lib.hid (bthen HB9.out hb)
    clear hb
    clear s0 s1 a0 a1 a2 a3 b0 b1 b2 b3
    have s0 := cell_on HBW.out S0C.out
    have s1 := cell_on HBW.out S1C.out
    have a0 := cell_on HBW.out A0C.out
    have a1 := cell_on HBW.out A1C.out
    have a2 := cell_on HBW.out A2C.out
    have a3 := cell_on HBW.out A3C.out
    have b0 := cell_on HBW.out B0C.out
    have b1 := cell_on HBW.out B1C.out
    have b2 := cell_on HBW.out B2C.out
    have b3 := cell_on HBW.out B3C.out
    go_wp2_with fail
    go_at_call 17
    refine (HLB.out _ HBW.out).mono ?_
    rintro e w11 ⟨rfl, hb⟩
    have HBW := Lib.hid (bthen HBW.out hb)
    have HB9 := Lib.hid (bthen HB9.out hb)
    clear hb
    clear s0 s1 a0 a1 a2 a3 b0 b1 b2 b3
    have s0 := cell_on HBW.out S0C.out
    have s1 := cell_on HBW.out S1C.out
    have a0 := cell_on HBW.out A0C.out
    have a1 := cell_on HBW.out A1C.out
    have a2 := cell_on HBW.out A2C.out
    have a3 := cell_on HBW.out A3C.out
    have b0 := cell_on HBW.out B0C.out
    have b1 := cell_on HBW.out B1C.out
    have b2 := cell_on HBW.out B2C.out
    have b3 := cell_on HBW.out B3C.out
    go_wp2_with fail
    go_at_call 18
    refine (HJ1.out _ HBW.out).mono ?_
    rintro e w12 ⟨⟨⟨D3, n3, c3, G3, gn3, gc3⟩, ⟨t3, L3, u3, X3⟩⟩, rfl, hz3, ho3, hb⟩
    simp only [encR_eq]
    have HZ3 := Lib.hid (show (⟨t3, L3, u3, X3⟩ : RV) = rr from hz3)
    obtain ⟨d1, hd1⟩ : ∃ d1, d1 = w12.alloc (.cells #[.int .i64 t3, .slice D3 n3 c3, .int .i64 u3, .slice G3 gn3 gc3] 27) := ⟨_, rfl⟩
    have hbd : Below w12.heap.size w12 d1 := by rw [hd1]; exact bpush (Below.refl _ _) _
    have HBX3 := Lib.hid (show Bx4 d1 w12.heap.size (.int .i64 t3) (.slice D3 n3 c3) (.int .i64 u3) (.slice G3 gn3 gc3) by rw [hd1]; exact Bx4.made)
    have HG3 := Lib.hid (show Good d1 (⟨D3, n3, c3, G3, gn3, gc3⟩, ⟨t3, L3, u3, X3⟩) from ho3.good.keep hbd)
    have HBW := Lib.hid (bthen (bthen HBW.out hb) hbd)
    have HB9 := Lib.hid (bthen (bthen HB9.out hb) hbd)
    have hWC := hd1.symm
    clear hz3 ho3 hb hbd hd1
    clear s0 s1 a0 a1 a2 a3 b0 b1 b2 b3
    have s0 := cell_on HBW.out S0C.out
    have s1 := cell_on HBW.out S1C.out
    have a0 := cell_on HBW.out A0C.out
    have a1 := cell_on HBW.out A1C.out
    have a2 := cell_on HBW.out A2C.out
    have a3 := cell_on HBW.out A3C.out
    have b0 := cell_on HBW.out B0C.out
    have b1 := cell_on HBW.out B1C.out
    have b2 := cell_on HBW.out B2C.out
    have b3 := cell_on HBW.out B3C.out
    go_wp2_with fail
    go_at_call 19
    refine (HJ2.out _ HBW.out).mono ?_
    clear hWC
    rintro e w13 ⟨⟨⟨D4, n4, c4, G4, gn4, gc4⟩, ⟨t4, L4, u4, X4⟩⟩, rfl, hz4, ho4, hb⟩
    simp only [encR_eq]
    have HZ4 := Lib.hid (show (⟨t4, L4, u4, X4⟩ : RV) = rr from hz4)
    obtain ⟨d2, hd2⟩ : ∃ d2, d2 = w13.alloc (.cells #[.int .i64 t4, .slice D4 n4 c4, .int .i64 u4, .slice G4 gn4 gc4] 27) := ⟨_, rfl⟩
    have hbd : Below w13.heap.size w13 d2 := by rw [hd2]; exact bpush (Below.refl _ _) _
    have hb2 : Below d1.heap.size d1 d2 := bthen hb hbd
    have HBX4 := Lib.hid (show Bx4 d2 w13.heap.size (.int .i64 t4) (.slice D4 n4 c4) (.int .i64 u4) (.slice G4 gn4 gc4) by rw [hd2]; exact Bx4.made)
    have HG4 := Lib.hid (show Good d2 (⟨D4, n4, c4, G4, gn4, gc4⟩, ⟨t4, L4, u4, X4⟩) from ho4.good.keep hbd)
    have HBX3 := Lib.hid (HBX3.out.keep hb2)
    have HG3 := Lib.hid (HG3.out.keep hb2)
    have HBW := Lib.hid (bthen HBW.out hb2)
    have HB9 := Lib.hid (bthen HB9.out hb2)
    have HD2 := Lib.hid hd2
    clear hz4 ho4 hb hbd hd2 hb2
    go_wp2_with fail
    rw [← HD2.out]
    clear HD2
    go_at_call 20
    refine (HSA.out _ HB9.out HBW.out).mono ?_
    rintro e d ⟨rfl, hb⟩
    have HBX3 := Lib.hid (HBX3.out.keep hb)
    have HG3 := Lib.hid (HG3.out.keep hb)
    have HBX4 := Lib.hid (HBX4.out.keep hb)
    have HG4 := Lib.hid (HG4.out.keep hb)
    have HBW := Lib.hid (bthen HBW.out hb)
    have HB9 := Lib.hid (bthen HB9.out hb)
    clear hb
    clear s0 s1 a0 a1 a2 a3 b0 b1 b2 b3
    have s0 := cell_on HBW.out S0C.out
    have s1 := cell_on HBW.out S1C.out
    have a0 := cell_on HBW.out A0C.out
    have a1 := cell_on HBW.out A1C.out
    have a2 := cell_on HBW.out A2C.out
    have a3 := cell_on HBW.out A3C.out
    have b0 := cell_on HBW.out B0C.out
    have b1 := cell_on HBW.out B1C.out
    have b2 := cell_on HBW.out B2C.out
    have b3 := cell_on HBW.out B3C.out
    obtain ⟨p0, p1, p2, p3, pf3⟩ := HBX3.out
    obtain ⟨q0, q1, q2, q3, qf3⟩ := HBX4.out
    have HON := Lib.hid (show ∀ W, Below d.heap.size d W → Calls Try.prog 15 #[.agg #[.int .i64 t3, .slice D3 n3 c3, .int .i64 u3, .slice G3 gn3 gc3], .agg #[.int .i64 t4, .slice D4 n4 c4, .int .i64 u4, .slice G4 gn4 gc4]] W fun e w' => e = .returned (.bool true) ∧ Below W.heap.size W w' from fun W hW =>
      refrow_any t3 t4 u3 u4 D3 D4 G3 G4 n3 c3 n4 c4 gn3 gc3 gn4 gc4 L3 L4 X3 X4 W (HG3.out.rd.keep (Nat.le_refl _) hW) (HG4.out.rd.keep (Nat.le_refl _) hW) (HG3.out.rg.keep (Nat.le_refl _) hW) (HG4.out.rg.keep (Nat.le_refl _) hW) HG3.out.nd HG4.out.nd HG3.out.ng HG4.out.ng (by have := HG3.out.sd; simp only at this; omega) (by have := HG4.out.sd; simp only at this; omega) (by have := HG3.out.sg; simp only at this; omega) (by have := HG4.out.sg; simp only at this; omega) true ⟨fun _ => by
        obtain ⟨e1, e2, e3, e4⟩ := RV.mk.inj (HZ3.out.trans HZ4.out.symm)
        exact ⟨⟨e2, e1⟩, e4, e3⟩, fun _ => rfl⟩)
    go_wp2_with fail
    refine wp_region_held_drew (S := fun w' => Below d.heap.size d w') (by kernel_rfl) (below_drewN (Below.refl _ _) 1) ?_
    intro hHeld
    refine wpAnyH_ready (rs := [0]) (by kernel_rfl) (by simp) ?_
    refine AllReadyH.cons rfl (fun K hK => ?_) AllReadyH.nil
    go_simp
    (go_at_call 10; refine (alive_any _).mono ?_; rintro e w20 ⟨rfl, hb⟩)
    refine hK.out _ _ (bthen hHeld hb) (fun hHeld => ?_)
    clear hK K
    (try simp only [Act.put, List.setIfInBounds_toArray, List.set_cons_zero, List.set_cons_succ])
    refine take_want (i := 1) (v := ?v1k5) rfl (by kernel_rfl) (by kernel_rfl) (by kernel_rfl) (fun _ _ _ h => h) (by rfl) ?y1k5 (by assumption) ?r1k5
    case y1k5 => (intro w hSw; go_simp; all_goals with_reducible rfl)
    (try simp only [Act.put, List.setIfInBounds_toArray, List.set_cons_zero, List.set_cons_succ])
    refine take_want (i := 2) (v := ?v2k5) rfl (by kernel_rfl) (by kernel_rfl) (by kernel_rfl) (fun _ _ _ h => h) (by rfl) ?y2k5 (by assumption) ?r2k5
    case y2k5 => (intro w hSw; have m0 := cell_on hSw a0; have m1 := cell_on hSw a1; have m2 := cell_on hSw a2; have m3 := cell_on hSw a3; have m4 := cell_on hSw b0; have m5 := cell_on hSw b1; have m6 := cell_on hSw b2; have m7 := cell_on hSw b3; go_simp; all_goals with_reducible rfl)
    (try simp only [Act.put, List.setIfInBounds_toArray, List.set_cons_zero, List.set_cons_succ])
    refine take_want (i := 3) (v := ?v3k5) rfl (by kernel_rfl) (by kernel_rfl) (by kernel_rfl) (fun _ _ _ h => h) (by rfl) ?y3k5 (by assumption) ?r3k5
    case y3k5 => (intro w hSw; have m0 := cell_on hSw a0; have m1 := cell_on hSw a1; have m2 := cell_on hSw a2; have m3 := cell_on hSw a3; have m4 := cell_on hSw b0; have m5 := cell_on hSw b1; have m6 := cell_on hSw b2; have m7 := cell_on hSw b3; go_simp; all_goals with_reducible rfl)
    (try simp only [Act.put, List.setIfInBounds_toArray, List.set_cons_zero, List.set_cons_succ])
    refine take_want (i := 5) (v := ?v5k5) rfl (by kernel_rfl) (by kernel_rfl) (by kernel_rfl) (fun _ _ _ h => h) (by rfl) ?y5k5 (by assumption) ?r5k5
    case y5k5 => (intro w hSw; go_simp; all_goals with_reducible rfl)
    (try simp only [Act.put, List.setIfInBounds_toArray, List.set_cons_zero, List.set_cons_succ])
    refine wpAnyH_ready (rs := [4]) (by kernel_rfl) (by simp) ?_
    refine AllReadyH.cons rfl (fun K hK => ?_) AllReadyH.nil
    go_simp
    (go_at_call 21; refine (HCV.out _ (bthen HBW.out hHeld)).mono ?_; rintro e w21 ⟨rfl, hb⟩)
    refine hK.out _ _ (bthen hHeld hb) (fun hHeld => ?_)
    clear hK K
    (try simp only [Act.put, List.setIfInBounds_toArray, List.set_cons_zero, List.set_cons_succ])
    refine take_want (i := 6) (v := (.bool true)) rfl (by kernel_rfl) (by kernel_rfl) (by kernel_rfl) (fun _ _ _ h => h) (by rfl) ?y6k5 (by assumption) ?r6k5
    case y6k5 => (intro w hSw; go_simp; (try simp))
    (try simp only [Act.put, List.setIfInBounds_toArray, List.set_cons_zero, List.set_cons_succ])
    refine take_want (i := 7) (v := ?v7k5) rfl (by kernel_rfl) (by kernel_rfl) (by kernel_rfl) (fun _ _ _ h => h) (by rfl) ?y7k5 (by assumption) ?r7k5
    case y7k5 => (intro w hSw; go_simp; all_goals with_reducible rfl)
    (try simp only [Act.put, List.setIfInBounds_toArray, List.set_cons_zero, List.set_cons_succ])
    refine take_want (i := 8) (v := ?v8k5) rfl (by kernel_rfl) (by kernel_rfl) (by kernel_rfl) (fun _ _ _ h => h) (by rfl) ?y8k5 (by assumption) ?r8k5
    case y8k5 => (intro w hSw; go_simp; all_goals with_reducible rfl)
    (try simp only [Act.put, List.setIfInBounds_toArray, List.set_cons_zero, List.set_cons_succ])
    refine take_want (i := 9) (v := ?v9k5) rfl (by kernel_rfl) (by kernel_rfl) (by kernel_rfl) (fun _ _ _ h => h) (by rfl) ?y9k5 (by assumption) ?r9k5
    case y9k5 => (intro w hSw; have m0 := cell_on hSw p0; have m1 := cell_on hSw p1; have m2 := cell_on hSw p2; have m3 := cell_on hSw p3; have m4 := cell_on hSw q0; have m5 := cell_on hSw q1; have m6 := cell_on hSw q2; have m7 := cell_on hSw q3; go_simp; all_goals with_reducible rfl)
    (try simp only [Act.put, List.setIfInBounds_toArray, List.set_cons_zero, List.set_cons_succ])
    refine take_want (i := 10) (v := ?v10k5) rfl (by kernel_rfl) (by kernel_rfl) (by kernel_rfl) (fun _ _ _ h => h) (by rfl) ?y10k5 (by assumption) ?r10k5
    case y10k5 => (intro w hSw; have m0 := cell_on hSw p0; have m1 := cell_on hSw p1; have m2 := cell_on hSw p2; have m3 := cell_on hSw p3; have m4 := cell_on hSw q0; have m5 := cell_on hSw q1; have m6 := cell_on hSw q2; have m7 := cell_on hSw q3; go_simp; all_goals with_reducible rfl)
    (try simp only [Act.put, List.setIfInBounds_toArray, List.set_cons_zero, List.set_cons_succ])
    refine wpAnyH_ready (rs := [11]) (by kernel_rfl) (by simp) ?_
    refine AllReadyH.cons rfl (fun K hK => ?_) AllReadyH.nil
    go_simp
    (go_at_call 15; refine (HON.out _ hHeld).mono ?_; rintro e w22 ⟨rfl, hb⟩)
    refine hK.out _ _ (bthen hHeld hb) (fun hHeld => ?_)
    clear hK K
    (try simp only [Act.put, List.setIfInBounds_toArray, List.set_cons_zero, List.set_cons_succ])
    refine take_want (i := 12) (v := ?v12k5) rfl (by kernel_rfl) (by kernel_rfl) (by kernel_rfl) (fun _ _ _ h => h) (by rfl) ?y12k5 (by assumption) ?r12k5
    case y12k5 => (intro w hSw; go_simp; all_goals with_reducible rfl)
    (try simp only [Act.put, List.setIfInBounds_toArray, List.set_cons_zero, List.set_cons_succ])
    refine take_want (i := 13) (v := ?v13k5) rfl (by kernel_rfl) (by kernel_rfl) (by kernel_rfl) (fun _ _ _ h => h) (by rfl) ?y13k5 (by assumption) ?r13k5
    case y13k5 => (intro w hSw; go_simp; all_goals with_reducible rfl)
    (try simp only [Act.put, List.setIfInBounds_toArray, List.set_cons_zero, List.set_cons_succ])
    refine take_want (i := 14) (v := ?v14k5) rfl (by kernel_rfl) (by kernel_rfl) (by kernel_rfl) (fun _ _ _ h => h) (by rfl) ?y14k5 (by assumption) ?r14k5
    case y14k5 => (intro w hSw; go_simp; all_goals with_reducible rfl)
    (try simp only [Act.put, List.setIfInBounds_toArray, List.set_cons_zero, List.set_cons_succ])
    refine take_want (i := 15) (v := ?v15k5) rfl (by kernel_rfl) (by kernel_rfl) (by kernel_rfl) (fun _ _ _ h => h) (by rfl) ?y15k5 (by assumption) ?r15k5
    case y15k5 => (intro w hSw; go_simp; all_goals with_reducible rfl)
    (try simp only [Act.put, List.setIfInBounds_toArray, List.set_cons_zero, List.set_cons_succ])
    refine take_want (i := 16) (v := (.bool true)) rfl (by kernel_rfl) (by kernel_rfl) (by kernel_rfl) (fun _ _ _ h => h) (by rfl) ?y16k5 (by assumption) ?r16k5
    case y16k5 => (intro w hSw; go_simp; (try simp))
    (try simp only [Act.put, List.setIfInBounds_toArray, List.set_cons_zero, List.set_cons_succ])
    refine take_want (i := 17) (v := ?v17k5) rfl (by kernel_rfl) (by kernel_rfl) (by kernel_rfl) (fun _ _ _ h => h) (by rfl) ?y17k5 (by assumption) ?r17k5
    case y17k5 => (intro w hSw; go_simp; all_goals with_reducible rfl)
    (try simp only [Act.put, List.setIfInBounds_toArray, List.set_cons_zero, List.set_cons_succ])
    refine take_want (i := 18) (v := ?v18k5) rfl (by kernel_rfl) (by kernel_rfl) (by kernel_rfl) (fun _ _ _ h => h) (by rfl) ?y18k5 (by assumption) ?r18k5
    case y18k5 => (intro w hSw; go_simp; all_goals with_reducible rfl)
    (try simp only [Act.put, List.setIfInBounds_toArray, List.set_cons_zero, List.set_cons_succ])
    refine take_want (i := 19) (v := ?v19k5) rfl (by kernel_rfl) (by kernel_rfl) (by kernel_rfl) (fun _ _ _ h => h) (by rfl) ?y19k5 (by assumption) ?r19k5
    case y19k5 => (intro w hSw; go_simp; all_goals with_reducible rfl)
    (try simp only [Act.put, List.setIfInBounds_toArray, List.set_cons_zero, List.set_cons_succ])
    refine take_want (i := 20) (v := ?v20k5) rfl (by kernel_rfl) (by kernel_rfl) (by kernel_rfl) (fun _ _ _ h => h) (by rfl) ?y20k5 (by assumption) ?r20k5
    case y20k5 => (intro w hSw; go_simp; all_goals with_reducible rfl)
    (try simp only [Act.put, List.setIfInBounds_toArray, List.set_cons_zero, List.set_cons_succ])
    refine take_want (i := 21) (v := ?v21k5) rfl (by kernel_rfl) (by kernel_rfl) (by kernel_rfl) (fun _ _ _ h => h) (by rfl) ?y21k5 (by assumption) ?r21k5
    case y21k5 => (intro w hSw; go_simp; all_goals with_reducible rfl)
    (try simp only [Act.put, List.setIfInBounds_toArray, List.set_cons_zero, List.set_cons_succ])
    refine take_want (i := 22) (v := ?v22k5) rfl (by kernel_rfl) (by kernel_rfl) (by kernel_rfl) (fun _ _ _ h => h) (by rfl) ?y22k5 (by assumption) ?r22k5
    case y22k5 => (intro w hSw; have m0 := cell_on hSw a0; have m1 := cell_on hSw a1; have m2 := cell_on hSw a2; have m3 := cell_on hSw a3; have m4 := cell_on hSw b0; have m5 := cell_on hSw b1; have m6 := cell_on hSw b2; have m7 := cell_on hSw b3; go_simp; all_goals with_reducible rfl)
    (try simp only [Act.put, List.setIfInBounds_toArray, List.set_cons_zero, List.set_cons_succ])
    refine take_want (i := 24) (v := ?v24k5) rfl (by kernel_rfl) (by kernel_rfl) (by kernel_rfl) (fun _ _ _ h => h) (by rfl) ?y24k5 (by assumption) ?r24k5
    case y24k5 => (intro w hSw; have m0 := cell_on hSw a0; have m1 := cell_on hSw a1; have m2 := cell_on hSw a2; have m3 := cell_on hSw a3; have m4 := cell_on hSw b0; have m5 := cell_on hSw b1; have m6 := cell_on hSw b2; have m7 := cell_on hSw b3; go_simp; all_goals with_reducible rfl)
    (try simp only [Act.put, List.setIfInBounds_toArray, List.set_cons_zero, List.set_cons_succ])
    refine take_want (i := 27) (v := ?v27k5) rfl (by kernel_rfl) (by kernel_rfl) (by kernel_rfl) (fun _ _ _ h => h) (by rfl) ?y27k5 (by assumption) ?r27k5
    case y27k5 => (intro w hSw; have m0 := cell_on hSw a0; have m1 := cell_on hSw a1; have m2 := cell_on hSw a2; have m3 := cell_on hSw a3; have m4 := cell_on hSw b0; have m5 := cell_on hSw b1; have m6 := cell_on hSw b2; have m7 := cell_on hSw b3; go_simp; all_goals with_reducible rfl)
    (try simp only [Act.put, List.setIfInBounds_toArray, List.set_cons_zero, List.set_cons_succ])
    refine take_want (i := 28) (v := ?v28k5) rfl (by kernel_rfl) (by kernel_rfl) (by kernel_rfl) (fun _ _ _ h => h) (by rfl) ?y28k5 (by assumption) ?r28k5
    case y28k5 => (intro w hSw; have m0 := cell_on hSw a0; have m1 := cell_on hSw a1; have m2 := cell_on hSw a2; have m3 := cell_on hSw a3; have m4 := cell_on hSw b0; have m5 := cell_on hSw b1; have m6 := cell_on hSw b2; have m7 := cell_on hSw b3; go_simp; all_goals with_reducible rfl)
    (try simp only [Act.put, List.setIfInBounds_toArray, List.set_cons_zero, List.set_cons_succ])
    refine wpAnyH_ready (rs := [23, 25]) (by kernel_rfl) (by simp) ?_
    refine AllReadyH.cons rfl (fun K hK => ?_) (AllReadyH.cons rfl (fun K hK => ?_) AllReadyH.nil)
    · go_simp
      obtain ⟨x1, hx1⟩ : ∃ x1, x1 = w22.alloc (.cells #[.int .i64 t0, .slice D0 n0 c0, .int .i64 u0, .slice G0 gn0 gc0] 27) := ⟨_, rfl⟩
      have hbx1 : Below w22.heap.size w22 x1 := by rw [hx1]; exact bpush (Below.refl _ _) _
      have HRA := Lib.hid (show Row x1 (some ⟨w22.heap.size, 0, none⟩) (cellsR [(⟨D0, n0, c0, G0, gn0, gc0⟩, ⟨t0, L0, u0, X0⟩)]) by rw [hx1]; exact Row.made rfl rfl)
      rw [← hx1]
      refine hK.out _ _ (bthen hHeld hbx1) (fun hHeld => ?_)
      clear hK K hbx1 hx1
      (try simp only [Act.put, List.setIfInBounds_toArray, List.set_cons_zero, List.set_cons_succ])
      refine wpAnyH_ready (rs := [25]) (by kernel_rfl) (by simp) ?_
      refine AllReadyH.cons rfl (fun K hK => ?_) AllReadyH.nil
      go_simp
      obtain ⟨x2, hx2⟩ : ∃ x2, x2 = x1.alloc (.cells #[.int .i64 t1, .slice D1 n1 c1, .int .i64 u1, .slice G1 gn1 gc1] 27) := ⟨_, rfl⟩
      have hbx2 : Below x1.heap.size x1 x2 := by rw [hx2]; exact bpush (Below.refl _ _) _
      have HRB := Lib.hid (show Row x2 (some ⟨x1.heap.size, 0, none⟩) (cellsR [(⟨D1, n1, c1, G1, gn1, gc1⟩, ⟨t1, L1, u1, X1⟩)]) by rw [hx2]; exact Row.made rfl rfl)
      have HRA := Lib.hid (HRA.out.keep (Nat.le_refl _) hbx2)
      rw [← hx2]
      refine hK.out _ _ (bthen hHeld hbx2) (fun hHeld => ?_)
      clear hK K hbx2 hx2
      (try simp only [Act.put, List.setIfInBounds_toArray, List.set_cons_zero, List.set_cons_succ])
      have hwx := bthen HBW.out hHeld
      have HSM := Lib.hid (same_any (some ⟨w22.heap.size, 0, none⟩) (some ⟨x1.heap.size, 0, none⟩) 1 1 1 1 [⟨t0, L0, u0, X0⟩] [⟨t1, L1, u1, X1⟩] x2 (rowsM0 HRA.out (fun z hz => by rw [List.mem_singleton.1 hz]; exact G0D.out.keep hwx)) (rowsM0 HRB.out (fun z hz => by rw [List.mem_singleton.1 hz]; exact G1D.out.keep hwx)) rfl rfl (by decide) (by decide) sb (by rw [HSB.out]; simp))
      refine wpAnyH_ready (rs := [26]) (by kernel_rfl) (by simp) ?_
      refine AllReadyH.cons rfl (fun K hK => ?_) AllReadyH.nil
      go_simp
      (go_at_call 22; refine HSM.out.mono ?_; rintro e x3 ⟨rfl, hb⟩)
      refine hK.out _ _ (bthen hHeld hb) (fun hHeld => ?_)
      clear hK K
      (try simp only [Act.put, List.setIfInBounds_toArray, List.set_cons_zero, List.set_cons_succ])
      refine wpAnyH_ready (rs := [29]) (by kernel_rfl) (by simp) ?_
      refine AllReadyH.cons rfl (fun K hK => ?_) AllReadyH.nil
      go_simp
      (go_at_call 15; refine (HOB.out _ (bthen HBW.out hHeld)).mono ?_; rintro e x4 ⟨rfl, hb⟩)
      refine hK.out _ _ (bthen hHeld hb) (fun hHeld => ?_)
      clear hK K
      (try simp only [Act.put, List.setIfInBounds_toArray, List.set_cons_zero, List.set_cons_succ])
      refine take_want (i := 30) (v := (.bool true)) rfl (by kernel_rfl) (by kernel_rfl) (by kernel_rfl) (fun _ _ _ h => h) (by rfl) ?y30k6 (by assumption) ?r30k6
      case y30k6 => (intro w hSw; go_simp; (try simp))
      (try simp only [Act.put, List.setIfInBounds_toArray, List.set_cons_zero, List.set_cons_succ])
      refine take_want (i := 31) (v := ?v31k6) rfl (by kernel_rfl) (by kernel_rfl) (by kernel_rfl) (fun _ _ _ h => h) (by rfl) ?y31k6 (by assumption) ?r31k6
      case y31k6 => (intro w hSw; go_simp; all_goals with_reducible rfl)
      (try simp only [Act.put, List.setIfInBounds_toArray, List.set_cons_zero, List.set_cons_succ])
      refine take_want (i := 32) (v := ?v32k6) rfl (by kernel_rfl) (by kernel_rfl) (by kernel_rfl) (fun _ _ _ h => h) (by rfl) ?y32k6 (by assumption) ?r32k6
      case y32k6 => (intro w hSw; go_simp; all_goals with_reducible rfl)
      (try simp only [Act.put, List.setIfInBounds_toArray, List.set_cons_zero, List.set_cons_succ])
      refine wpAnyH_done (by kernel_rfl) ?_ _
      go_wp2_with fail
      go_ret
      exact ⟨rfl, bthen HB1.out (bthen HBW.out hHeld)⟩
    · go_simp
      obtain ⟨x1, hx1⟩ : ∃ x1, x1 = w22.alloc (.cells #[.int .i64 t1, .slice D1 n1 c1, .int .i64 u1, .slice G1 gn1 gc1] 27) := ⟨_, rfl⟩
      have hbx1 : Below w22.heap.size w22 x1 := by rw [hx1]; exact bpush (Below.refl _ _) _
      have HRA := Lib.hid (show Row x1 (some ⟨w22.heap.size, 0, none⟩) (cellsR [(⟨D1, n1, c1, G1, gn1, gc1⟩, ⟨t1, L1, u1, X1⟩)]) by rw [hx1]; exact Row.made rfl rfl)
      rw [← hx1]
      refine hK.out _ _ (bthen hHeld hbx1) (fun hHeld => ?_)
      clear hK K hbx1 hx1
      (try simp only [Act.put, List.setIfInBounds_toArray, List.set_cons_zero, List.set_cons_succ])
      refine wpAnyH_ready (rs := [23]) (by kernel_rfl) (by simp) ?_
      refine AllReadyH.cons rfl (fun K hK => ?_) AllReadyH.nil
      go_simp
      obtain ⟨x2, hx2⟩ : ∃ x2, x2 = x1.alloc (.cells #[.int .i64 t0, .slice D0 n0 c0, .int .i64 u0, .slice G0 gn0 gc0] 27) := ⟨_, rfl⟩
      have hbx2 : Below x1.heap.size x1 x2 := by rw [hx2]; exact bpush (Below.refl _ _) _
      have HRB := Lib.hid (show Row x2 (some ⟨x1.heap.size, 0, none⟩) (cellsR [(⟨D0, n0, c0, G0, gn0, gc0⟩, ⟨t0, L0, u0, X0⟩)]) by rw [hx2]; exact Row.made rfl rfl)
      have HRA := Lib.hid (HRA.out.keep (Nat.le_refl _) hbx2)
      rw [← hx2]
      refine hK.out _ _ (bthen hHeld hbx2) (fun hHeld => ?_)
      clear hK K hbx2 hx2
      (try simp only [Act.put, List.setIfInBounds_toArray, List.set_cons_zero, List.set_cons_succ])
      have hwx := bthen HBW.out hHeld
      have HSM := Lib.hid (same_any (some ⟨x1.heap.size, 0, none⟩) (some ⟨w22.heap.size, 0, none⟩) 1 1 1 1 [⟨t0, L0, u0, X0⟩] [⟨t1, L1, u1, X1⟩] x2 (rowsM0 HRB.out (fun z hz => by rw [List.mem_singleton.1 hz]; exact G0D.out.keep hwx)) (rowsM0 HRA.out (fun z hz => by rw [List.mem_singleton.1 hz]; exact G1D.out.keep hwx)) rfl rfl (by decide) (by decide) sb (by rw [HSB.out]; simp))
      refine wpAnyH_ready (rs := [26]) (by kernel_rfl) (by simp) ?_
      refine AllReadyH.cons rfl (fun K hK => ?_) AllReadyH.nil
      go_simp
      (go_at_call 22; refine HSM.out.mono ?_; rintro e x3 ⟨rfl, hb⟩)
      refine hK.out _ _ (bthen hHeld hb) (fun hHeld => ?_)
      clear hK K
      (try simp only [Act.put, List.setIfInBounds_toArray, List.set_cons_zero, List.set_cons_succ])
      refine wpAnyH_ready (rs := [29]) (by kernel_rfl) (by simp) ?_
      refine AllReadyH.cons rfl (fun K hK => ?_) AllReadyH.nil
      go_simp
      (go_at_call 15; refine (HOB.out _ (bthen HBW.out hHeld)).mono ?_; rintro e x4 ⟨rfl, hb⟩)
      refine hK.out _ _ (bthen hHeld hb) (fun hHeld => ?_)
      clear hK K
      (try simp only [Act.put, List.setIfInBounds_toArray, List.set_cons_zero, List.set_cons_succ])
      refine take_want (i := 30) (v := (.bool true)) rfl (by kernel_rfl) (by kernel_rfl) (by kernel_rfl) (fun _ _ _ h => h) (by rfl) ?y30k7 (by assumption) ?r30k7
      case y30k7 => (intro w hSw; go_simp; (try simp))
      (try simp only [Act.put, List.setIfInBounds_toArray, List.set_cons_zero, List.set_cons_succ])
      refine take_want (i := 31) (v := ?v31k7) rfl (by kernel_rfl) (by kernel_rfl) (by kernel_rfl) (fun _ _ _ h => h) (by rfl) ?y31k7 (by assumption) ?r31k7
      case y31k7 => (intro w hSw; go_simp; all_goals with_reducible rfl)
      (try simp only [Act.put, List.setIfInBounds_toArray, List.set_cons_zero, List.set_cons_succ])
      refine take_want (i := 32) (v := ?v32k7) rfl (by kernel_rfl) (by kernel_rfl) (by kernel_rfl) (fun _ _ _ h => h) (by rfl) ?y32k7 (by assumption) ?r32k7
      case y32k7 => (intro w hSw; go_simp; all_goals with_reducible rfl)
      (try simp only [Act.put, List.setIfInBounds_toArray, List.set_cons_zero, List.set_cons_succ])
      refine wpAnyH_done (by kernel_rfl) ?_ _
      go_wp2_with fail
      go_ret
      exact ⟨rfl, bthen HB1.out (bthen HBW.out hHeld)⟩
  · skip
    have HLA := Lib.hid (show ∀ W, Below W1.heap.size W1 W → Calls Try.prog 17 #[.agg #[.int .i64 t0, .slice D0 n0 c0, .int .i64 u0, .slice G0 gn0 gc0], .agg #[.int .i64 t1, .slice D1 n1 c1, .int .i64 u1, .slice G1 gn1 gc1]] W fun e w' => e = .returned (.bool false) ∧ Below W.heap.size W w' from fun W hW => by have h := HLG.out W hW; rw [← HAV.out] at h; exact h)
    have HLB := Lib.hid (show ∀ W, Below W1.heap.size W1 W → Calls Try.prog 17 #[.agg #[.int .i64 t1, .slice D1 n1 c1, .int .i64 u1, .slice G1 gn1 gc1], .agg #[.int .i64 t0, .slice D0 n0 c0, .int .i64 u0, .slice G0 gn0 gc0]] W fun e w' => e = .returned (.bool true) ∧ Below W.heap.size W w' from fun W hW => by have h := HLH.out W hW; rw [← HAV.out] at h; exact h)
    clear HAV HLG HLH
    go_wp2_with fail
    go_at_call 17
    refine (HLA.out _ HBW.out).mono ?_
    rintro e w10 ⟨rfl, hb⟩
    have HBW := Lib.hid (bthen HBW.out hb)
    have HB9 := Lib.hid (bthen HB9.out hb)
    clear hb
    clear s0 s1 a0 a1 a2 a3 b0 b1 b2 b3
    have s0 := cell_on HBW.out S0C.out
    have s1 := cell_on HBW.out S1C.out
    have a0 := cell_on HBW.out A0C.out
    have a1 := cell_on HBW.out A1C.out
    have a2 := cell_on HBW.out A2C.out
    have a3 := cell_on HBW.out A3C.out
    have b0 := cell_on HBW.out B0C.out
    have b1 := cell_on HBW.out B1C.out
    have b2 := cell_on HBW.out B2C.out
    have b3 := cell_on HBW.out B3C.out
    go_wp2_with fail
    go_at_call 17
    refine (HLB.out _ HBW.out).mono ?_
    rintro e w11 ⟨rfl, hb⟩
    have HBW := Lib.hid (bthen HBW.out hb)
    have HB9 := Lib.hid (bthen HB9.out hb)
    clear hb
    clear s0 s1 a0 a1 a2 a3 b0 b1 b2 b3
    have s0 := cell_on HBW.out S0C.out
    have s1 := cell_on HBW.out S1C.out
    have a0 := cell_on HBW.out A0C.out
    have a1 := cell_on HBW.out A1C.out
    have a2 := cell_on HBW.out A2C.out
    have a3 := cell_on HBW.out A3C.out
    have b0 := cell_on HBW.out B0C.out
    have b1 := cell_on HBW.out B1C.out
    have b2 := cell_on HBW.out B2C.out
    have b3 := cell_on HBW.out B3C.out
    go_wp2_with fail
    go_at_call 18
    refine (HJ1.out _ HBW.out).mono ?_
    rintro e w12 ⟨⟨⟨D3, n3, c3, G3, gn3, gc3⟩, ⟨t3, L3, u3, X3⟩⟩, rfl, hz3, ho3, hb⟩
    simp only [encR_eq]
    have HZ3 := Lib.hid (show (⟨t3, L3, u3, X3⟩ : RV) = rr from hz3)
    obtain ⟨d1, hd1⟩ : ∃ d1, d1 = w12.alloc (.cells #[.int .i64 t3, .slice D3 n3 c3, .int .i64 u3, .slice G3 gn3 gc3] 27) := ⟨_, rfl⟩
    have hbd : Below w12.heap.size w12 d1 := by rw [hd1]; exact bpush (Below.refl _ _) _
    have HBX3 := Lib.hid (show Bx4 d1 w12.heap.size (.int .i64 t3) (.slice D3 n3 c3) (.int .i64 u3) (.slice G3 gn3 gc3) by rw [hd1]; exact Bx4.made)
    have HG3 := Lib.hid (show Good d1 (⟨D3, n3, c3, G3, gn3, gc3⟩, ⟨t3, L3, u3, X3⟩) from ho3.good.keep hbd)
    have HBW := Lib.hid (bthen (bthen HBW.out hb) hbd)
    have HB9 := Lib.hid (bthen (bthen HB9.out hb) hbd)
    have hWC := hd1.symm
    clear hz3 ho3 hb hbd hd1
    clear s0 s1 a0 a1 a2 a3 b0 b1 b2 b3
    have s0 := cell_on HBW.out S0C.out
    have s1 := cell_on HBW.out S1C.out
    have a0 := cell_on HBW.out A0C.out
    have a1 := cell_on HBW.out A1C.out
    have a2 := cell_on HBW.out A2C.out
    have a3 := cell_on HBW.out A3C.out
    have b0 := cell_on HBW.out B0C.out
    have b1 := cell_on HBW.out B1C.out
    have b2 := cell_on HBW.out B2C.out
    have b3 := cell_on HBW.out B3C.out
    go_wp2_with fail
    go_at_call 19
    refine (HJ2.out _ HBW.out).mono ?_
    clear hWC
    rintro e w13 ⟨⟨⟨D4, n4, c4, G4, gn4, gc4⟩, ⟨t4, L4, u4, X4⟩⟩, rfl, hz4, ho4, hb⟩
    simp only [encR_eq]
    have HZ4 := Lib.hid (show (⟨t4, L4, u4, X4⟩ : RV) = rr from hz4)
    obtain ⟨d2, hd2⟩ : ∃ d2, d2 = w13.alloc (.cells #[.int .i64 t4, .slice D4 n4 c4, .int .i64 u4, .slice G4 gn4 gc4] 27) := ⟨_, rfl⟩
    have hbd : Below w13.heap.size w13 d2 := by rw [hd2]; exact bpush (Below.refl _ _) _
    have hb2 : Below d1.heap.size d1 d2 := bthen hb hbd
    have HBX4 := Lib.hid (show Bx4 d2 w13.heap.size (.int .i64 t4) (.slice D4 n4 c4) (.int .i64 u4) (.slice G4 gn4 gc4) by rw [hd2]; exact Bx4.made)
    have HG4 := Lib.hid (show Good d2 (⟨D4, n4, c4, G4, gn4, gc4⟩, ⟨t4, L4, u4, X4⟩) from ho4.good.keep hbd)
    have HBX3 := Lib.hid (HBX3.out.keep hb2)
    have HG3 := Lib.hid (HG3.out.keep hb2)
    have HBW := Lib.hid (bthen HBW.out hb2)
    have HB9 := Lib.hid (bthen HB9.out hb2)
    have HD2 := Lib.hid hd2
    clear hz4 ho4 hb hbd hd2 hb2
    go_wp2_with fail
    rw [← HD2.out]
    clear HD2
    go_at_call 20
    refine (HSA.out _ HB9.out HBW.out).mono ?_
    rintro e d ⟨rfl, hb⟩
    have HBX3 := Lib.hid (HBX3.out.keep hb)
    have HG3 := Lib.hid (HG3.out.keep hb)
    have HBX4 := Lib.hid (HBX4.out.keep hb)
    have HG4 := Lib.hid (HG4.out.keep hb)
    have HBW := Lib.hid (bthen HBW.out hb)
    have HB9 := Lib.hid (bthen HB9.out hb)
    clear hb
    clear s0 s1 a0 a1 a2 a3 b0 b1 b2 b3
    have s0 := cell_on HBW.out S0C.out
    have s1 := cell_on HBW.out S1C.out
    have a0 := cell_on HBW.out A0C.out
    have a1 := cell_on HBW.out A1C.out
    have a2 := cell_on HBW.out A2C.out
    have a3 := cell_on HBW.out A3C.out
    have b0 := cell_on HBW.out B0C.out
    have b1 := cell_on HBW.out B1C.out
    have b2 := cell_on HBW.out B2C.out
    have b3 := cell_on HBW.out B3C.out
    obtain ⟨p0, p1, p2, p3, pf3⟩ := HBX3.out
    obtain ⟨q0, q1, q2, q3, qf3⟩ := HBX4.out
    have HON := Lib.hid (show ∀ W, Below d.heap.size d W → Calls Try.prog 15 #[.agg #[.int .i64 t3, .slice D3 n3 c3, .int .i64 u3, .slice G3 gn3 gc3], .agg #[.int .i64 t4, .slice D4 n4 c4, .int .i64 u4, .slice G4 gn4 gc4]] W fun e w' => e = .returned (.bool true) ∧ Below W.heap.size W w' from fun W hW =>
      refrow_any t3 t4 u3 u4 D3 D4 G3 G4 n3 c3 n4 c4 gn3 gc3 gn4 gc4 L3 L4 X3 X4 W (HG3.out.rd.keep (Nat.le_refl _) hW) (HG4.out.rd.keep (Nat.le_refl _) hW) (HG3.out.rg.keep (Nat.le_refl _) hW) (HG4.out.rg.keep (Nat.le_refl _) hW) HG3.out.nd HG4.out.nd HG3.out.ng HG4.out.ng (by have := HG3.out.sd; simp only at this; omega) (by have := HG4.out.sd; simp only at this; omega) (by have := HG3.out.sg; simp only at this; omega) (by have := HG4.out.sg; simp only at this; omega) true ⟨fun _ => by
        obtain ⟨e1, e2, e3, e4⟩ := RV.mk.inj (HZ3.out.trans HZ4.out.symm)
        exact ⟨⟨e2, e1⟩, e4, e3⟩, fun _ => rfl⟩)
    go_wp2_with fail
    refine wp_region_held_drew (S := fun w' => Below d.heap.size d w') (by kernel_rfl) (below_drewN (Below.refl _ _) 1) ?_
    intro hHeld
    refine wpAnyH_ready (rs := [0]) (by kernel_rfl) (by simp) ?_
    refine AllReadyH.cons rfl (fun K hK => ?_) AllReadyH.nil
    go_simp
    (go_at_call 10; refine (alive_any _).mono ?_; rintro e w20 ⟨rfl, hb⟩)
    refine hK.out _ _ (bthen hHeld hb) (fun hHeld => ?_)
    clear hK K
    (try simp only [Act.put, List.setIfInBounds_toArray, List.set_cons_zero, List.set_cons_succ])
    refine take_want (i := 1) (v := ?v1k8) rfl (by kernel_rfl) (by kernel_rfl) (by kernel_rfl) (fun _ _ _ h => h) (by rfl) ?y1k8 (by assumption) ?r1k8
    case y1k8 => (intro w hSw; go_simp; all_goals with_reducible rfl)
    (try simp only [Act.put, List.setIfInBounds_toArray, List.set_cons_zero, List.set_cons_succ])
    refine take_want (i := 2) (v := ?v2k8) rfl (by kernel_rfl) (by kernel_rfl) (by kernel_rfl) (fun _ _ _ h => h) (by rfl) ?y2k8 (by assumption) ?r2k8
    case y2k8 => (intro w hSw; have m0 := cell_on hSw a0; have m1 := cell_on hSw a1; have m2 := cell_on hSw a2; have m3 := cell_on hSw a3; have m4 := cell_on hSw b0; have m5 := cell_on hSw b1; have m6 := cell_on hSw b2; have m7 := cell_on hSw b3; go_simp; all_goals with_reducible rfl)
    (try simp only [Act.put, List.setIfInBounds_toArray, List.set_cons_zero, List.set_cons_succ])
    refine take_want (i := 3) (v := ?v3k8) rfl (by kernel_rfl) (by kernel_rfl) (by kernel_rfl) (fun _ _ _ h => h) (by rfl) ?y3k8 (by assumption) ?r3k8
    case y3k8 => (intro w hSw; have m0 := cell_on hSw a0; have m1 := cell_on hSw a1; have m2 := cell_on hSw a2; have m3 := cell_on hSw a3; have m4 := cell_on hSw b0; have m5 := cell_on hSw b1; have m6 := cell_on hSw b2; have m7 := cell_on hSw b3; go_simp; all_goals with_reducible rfl)
    (try simp only [Act.put, List.setIfInBounds_toArray, List.set_cons_zero, List.set_cons_succ])
    refine take_want (i := 5) (v := ?v5k8) rfl (by kernel_rfl) (by kernel_rfl) (by kernel_rfl) (fun _ _ _ h => h) (by rfl) ?y5k8 (by assumption) ?r5k8
    case y5k8 => (intro w hSw; go_simp; all_goals with_reducible rfl)
    (try simp only [Act.put, List.setIfInBounds_toArray, List.set_cons_zero, List.set_cons_succ])
    refine wpAnyH_ready (rs := [4]) (by kernel_rfl) (by simp) ?_
    refine AllReadyH.cons rfl (fun K hK => ?_) AllReadyH.nil
    go_simp
    (go_at_call 21; refine (HCV.out _ (bthen HBW.out hHeld)).mono ?_; rintro e w21 ⟨rfl, hb⟩)
    refine hK.out _ _ (bthen hHeld hb) (fun hHeld => ?_)
    clear hK K
    (try simp only [Act.put, List.setIfInBounds_toArray, List.set_cons_zero, List.set_cons_succ])
    refine take_want (i := 6) (v := (.bool true)) rfl (by kernel_rfl) (by kernel_rfl) (by kernel_rfl) (fun _ _ _ h => h) (by rfl) ?y6k8 (by assumption) ?r6k8
    case y6k8 => (intro w hSw; go_simp; (try simp))
    (try simp only [Act.put, List.setIfInBounds_toArray, List.set_cons_zero, List.set_cons_succ])
    refine take_want (i := 7) (v := ?v7k8) rfl (by kernel_rfl) (by kernel_rfl) (by kernel_rfl) (fun _ _ _ h => h) (by rfl) ?y7k8 (by assumption) ?r7k8
    case y7k8 => (intro w hSw; go_simp; all_goals with_reducible rfl)
    (try simp only [Act.put, List.setIfInBounds_toArray, List.set_cons_zero, List.set_cons_succ])
    refine take_want (i := 8) (v := ?v8k8) rfl (by kernel_rfl) (by kernel_rfl) (by kernel_rfl) (fun _ _ _ h => h) (by rfl) ?y8k8 (by assumption) ?r8k8
    case y8k8 => (intro w hSw; go_simp; all_goals with_reducible rfl)
    (try simp only [Act.put, List.setIfInBounds_toArray, List.set_cons_zero, List.set_cons_succ])
    refine take_want (i := 9) (v := ?v9k8) rfl (by kernel_rfl) (by kernel_rfl) (by kernel_rfl) (fun _ _ _ h => h) (by rfl) ?y9k8 (by assumption) ?r9k8
    case y9k8 => (intro w hSw; have m0 := cell_on hSw p0; have m1 := cell_on hSw p1; have m2 := cell_on hSw p2; have m3 := cell_on hSw p3; have m4 := cell_on hSw q0; have m5 := cell_on hSw q1; have m6 := cell_on hSw q2; have m7 := cell_on hSw q3; go_simp; all_goals with_reducible rfl)
    (try simp only [Act.put, List.setIfInBounds_toArray, List.set_cons_zero, List.set_cons_succ])
    refine take_want (i := 10) (v := ?v10k8) rfl (by kernel_rfl) (by kernel_rfl) (by kernel_rfl) (fun _ _ _ h => h) (by rfl) ?y10k8 (by assumption) ?r10k8
    case y10k8 => (intro w hSw; have m0 := cell_on hSw p0; have m1 := cell_on hSw p1; have m2 := cell_on hSw p2; have m3 := cell_on hSw p3; have m4 := cell_on hSw q0; have m5 := cell_on hSw q1; have m6 := cell_on hSw q2; have m7 := cell_on hSw q3; go_simp; all_goals with_reducible rfl)
    (try simp only [Act.put, List.setIfInBounds_toArray, List.set_cons_zero, List.set_cons_succ])
    refine wpAnyH_ready (rs := [11]) (by kernel_rfl) (by simp) ?_
    refine AllReadyH.cons rfl (fun K hK => ?_) AllReadyH.nil
    go_simp
    (go_at_call 15; refine (HON.out _ hHeld).mono ?_; rintro e w22 ⟨rfl, hb⟩)
    refine hK.out _ _ (bthen hHeld hb) (fun hHeld => ?_)
    clear hK K
    (try simp only [Act.put, List.setIfInBounds_toArray, List.set_cons_zero, List.set_cons_succ])
    refine take_want (i := 12) (v := ?v12k8) rfl (by kernel_rfl) (by kernel_rfl) (by kernel_rfl) (fun _ _ _ h => h) (by rfl) ?y12k8 (by assumption) ?r12k8
    case y12k8 => (intro w hSw; go_simp; all_goals with_reducible rfl)
    (try simp only [Act.put, List.setIfInBounds_toArray, List.set_cons_zero, List.set_cons_succ])
    refine take_want (i := 13) (v := ?v13k8) rfl (by kernel_rfl) (by kernel_rfl) (by kernel_rfl) (fun _ _ _ h => h) (by rfl) ?y13k8 (by assumption) ?r13k8
    case y13k8 => (intro w hSw; go_simp; all_goals with_reducible rfl)
    (try simp only [Act.put, List.setIfInBounds_toArray, List.set_cons_zero, List.set_cons_succ])
    refine take_want (i := 14) (v := ?v14k8) rfl (by kernel_rfl) (by kernel_rfl) (by kernel_rfl) (fun _ _ _ h => h) (by rfl) ?y14k8 (by assumption) ?r14k8
    case y14k8 => (intro w hSw; go_simp; all_goals with_reducible rfl)
    (try simp only [Act.put, List.setIfInBounds_toArray, List.set_cons_zero, List.set_cons_succ])
    refine take_want (i := 15) (v := ?v15k8) rfl (by kernel_rfl) (by kernel_rfl) (by kernel_rfl) (fun _ _ _ h => h) (by rfl) ?y15k8 (by assumption) ?r15k8
    case y15k8 => (intro w hSw; go_simp; all_goals with_reducible rfl)
    (try simp only [Act.put, List.setIfInBounds_toArray, List.set_cons_zero, List.set_cons_succ])
    refine take_want (i := 16) (v := (.bool true)) rfl (by kernel_rfl) (by kernel_rfl) (by kernel_rfl) (fun _ _ _ h => h) (by rfl) ?y16k8 (by assumption) ?r16k8
    case y16k8 => (intro w hSw; go_simp; (try simp))
    (try simp only [Act.put, List.setIfInBounds_toArray, List.set_cons_zero, List.set_cons_succ])
    refine take_want (i := 17) (v := ?v17k8) rfl (by kernel_rfl) (by kernel_rfl) (by kernel_rfl) (fun _ _ _ h => h) (by rfl) ?y17k8 (by assumption) ?r17k8
    case y17k8 => (intro w hSw; go_simp; all_goals with_reducible rfl)
    (try simp only [Act.put, List.setIfInBounds_toArray, List.set_cons_zero, List.set_cons_succ])
    refine take_want (i := 18) (v := ?v18k8) rfl (by kernel_rfl) (by kernel_rfl) (by kernel_rfl) (fun _ _ _ h => h) (by rfl) ?y18k8 (by assumption) ?r18k8
    case y18k8 => (intro w hSw; go_simp; all_goals with_reducible rfl)
    (try simp only [Act.put, List.setIfInBounds_toArray, List.set_cons_zero, List.set_cons_succ])
    refine take_want (i := 19) (v := ?v19k8) rfl (by kernel_rfl) (by kernel_rfl) (by kernel_rfl) (fun _ _ _ h => h) (by rfl) ?y19k8 (by assumption) ?r19k8
    case y19k8 => (intro w hSw; go_simp; all_goals with_reducible rfl)
    (try simp only [Act.put, List.setIfInBounds_toArray, List.set_cons_zero, List.set_cons_succ])
    refine take_want (i := 20) (v := ?v20k8) rfl (by kernel_rfl) (by kernel_rfl) (by kernel_rfl) (fun _ _ _ h => h) (by rfl) ?y20k8 (by assumption) ?r20k8
    case y20k8 => (intro w hSw; go_simp; all_goals with_reducible rfl)
    (try simp only [Act.put, List.setIfInBounds_toArray, List.set_cons_zero, List.set_cons_succ])
    refine take_want (i := 21) (v := ?v21k8) rfl (by kernel_rfl) (by kernel_rfl) (by kernel_rfl) (fun _ _ _ h => h) (by rfl) ?y21k8 (by assumption) ?r21k8
    case y21k8 => (intro w hSw; go_simp; all_goals with_reducible rfl)
    (try simp only [Act.put, List.setIfInBounds_toArray, List.set_cons_zero, List.set_cons_succ])
    refine take_want (i := 22) (v := ?v22k8) rfl (by kernel_rfl) (by kernel_rfl) (by kernel_rfl) (fun _ _ _ h => h) (by rfl) ?y22k8 (by assumption) ?r22k8
    case y22k8 => (intro w hSw; have m0 := cell_on hSw a0; have m1 := cell_on hSw a1; have m2 := cell_on hSw a2; have m3 := cell_on hSw a3; have m4 := cell_on hSw b0; have m5 := cell_on hSw b1; have m6 := cell_on hSw b2; have m7 := cell_on hSw b3; go_simp; all_goals with_reducible rfl)
    (try simp only [Act.put, List.setIfInBounds_toArray, List.set_cons_zero, List.set_cons_succ])
    refine take_want (i := 24) (v := ?v24k8) rfl (by kernel_rfl) (by kernel_rfl) (by kernel_rfl) (fun _ _ _ h => h) (by rfl) ?y24k8 (by assumption) ?r24k8
    case y24k8 => (intro w hSw; have m0 := cell_on hSw a0; have m1 := cell_on hSw a1; have m2 := cell_on hSw a2; have m3 := cell_on hSw a3; have m4 := cell_on hSw b0; have m5 := cell_on hSw b1; have m6 := cell_on hSw b2; have m7 := cell_on hSw b3; go_simp; all_goals with_reducible rfl)
    (try simp only [Act.put, List.setIfInBounds_toArray, List.set_cons_zero, List.set_cons_succ])
    refine take_want (i := 27) (v := ?v27k8) rfl (by kernel_rfl) (by kernel_rfl) (by kernel_rfl) (fun _ _ _ h => h) (by rfl) ?y27k8 (by assumption) ?r27k8
    case y27k8 => (intro w hSw; have m0 := cell_on hSw a0; have m1 := cell_on hSw a1; have m2 := cell_on hSw a2; have m3 := cell_on hSw a3; have m4 := cell_on hSw b0; have m5 := cell_on hSw b1; have m6 := cell_on hSw b2; have m7 := cell_on hSw b3; go_simp; all_goals with_reducible rfl)
    (try simp only [Act.put, List.setIfInBounds_toArray, List.set_cons_zero, List.set_cons_succ])
    refine take_want (i := 28) (v := ?v28k8) rfl (by kernel_rfl) (by kernel_rfl) (by kernel_rfl) (fun _ _ _ h => h) (by rfl) ?y28k8 (by assumption) ?r28k8
    case y28k8 => (intro w hSw; have m0 := cell_on hSw a0; have m1 := cell_on hSw a1; have m2 := cell_on hSw a2; have m3 := cell_on hSw a3; have m4 := cell_on hSw b0; have m5 := cell_on hSw b1; have m6 := cell_on hSw b2; have m7 := cell_on hSw b3; go_simp; all_goals with_reducible rfl)
    (try simp only [Act.put, List.setIfInBounds_toArray, List.set_cons_zero, List.set_cons_succ])
    refine wpAnyH_ready (rs := [23, 25]) (by kernel_rfl) (by simp) ?_
    refine AllReadyH.cons rfl (fun K hK => ?_) (AllReadyH.cons rfl (fun K hK => ?_) AllReadyH.nil)
    · go_simp
      obtain ⟨x1, hx1⟩ : ∃ x1, x1 = w22.alloc (.cells #[.int .i64 t0, .slice D0 n0 c0, .int .i64 u0, .slice G0 gn0 gc0] 27) := ⟨_, rfl⟩
      have hbx1 : Below w22.heap.size w22 x1 := by rw [hx1]; exact bpush (Below.refl _ _) _
      have HRA := Lib.hid (show Row x1 (some ⟨w22.heap.size, 0, none⟩) (cellsR [(⟨D0, n0, c0, G0, gn0, gc0⟩, ⟨t0, L0, u0, X0⟩)]) by rw [hx1]; exact Row.made rfl rfl)
      rw [← hx1]
      refine hK.out _ _ (bthen hHeld hbx1) (fun hHeld => ?_)
      clear hK K hbx1 hx1
      (try simp only [Act.put, List.setIfInBounds_toArray, List.set_cons_zero, List.set_cons_succ])
      refine wpAnyH_ready (rs := [25]) (by kernel_rfl) (by simp) ?_
      refine AllReadyH.cons rfl (fun K hK => ?_) AllReadyH.nil
      go_simp
      obtain ⟨x2, hx2⟩ : ∃ x2, x2 = x1.alloc (.cells #[.int .i64 t1, .slice D1 n1 c1, .int .i64 u1, .slice G1 gn1 gc1] 27) := ⟨_, rfl⟩
      have hbx2 : Below x1.heap.size x1 x2 := by rw [hx2]; exact bpush (Below.refl _ _) _
      have HRB := Lib.hid (show Row x2 (some ⟨x1.heap.size, 0, none⟩) (cellsR [(⟨D1, n1, c1, G1, gn1, gc1⟩, ⟨t1, L1, u1, X1⟩)]) by rw [hx2]; exact Row.made rfl rfl)
      have HRA := Lib.hid (HRA.out.keep (Nat.le_refl _) hbx2)
      rw [← hx2]
      refine hK.out _ _ (bthen hHeld hbx2) (fun hHeld => ?_)
      clear hK K hbx2 hx2
      (try simp only [Act.put, List.setIfInBounds_toArray, List.set_cons_zero, List.set_cons_succ])
      have hwx := bthen HBW.out hHeld
      have HSM := Lib.hid (same_any (some ⟨w22.heap.size, 0, none⟩) (some ⟨x1.heap.size, 0, none⟩) 1 1 1 1 [⟨t0, L0, u0, X0⟩] [⟨t1, L1, u1, X1⟩] x2 (rowsM0 HRA.out (fun z hz => by rw [List.mem_singleton.1 hz]; exact G0D.out.keep hwx)) (rowsM0 HRB.out (fun z hz => by rw [List.mem_singleton.1 hz]; exact G1D.out.keep hwx)) rfl rfl (by decide) (by decide) sb (by rw [HSB.out]; simp))
      refine wpAnyH_ready (rs := [26]) (by kernel_rfl) (by simp) ?_
      refine AllReadyH.cons rfl (fun K hK => ?_) AllReadyH.nil
      go_simp
      (go_at_call 22; refine HSM.out.mono ?_; rintro e x3 ⟨rfl, hb⟩)
      refine hK.out _ _ (bthen hHeld hb) (fun hHeld => ?_)
      clear hK K
      (try simp only [Act.put, List.setIfInBounds_toArray, List.set_cons_zero, List.set_cons_succ])
      refine wpAnyH_ready (rs := [29]) (by kernel_rfl) (by simp) ?_
      refine AllReadyH.cons rfl (fun K hK => ?_) AllReadyH.nil
      go_simp
      (go_at_call 15; refine (HOB.out _ (bthen HBW.out hHeld)).mono ?_; rintro e x4 ⟨rfl, hb⟩)
      refine hK.out _ _ (bthen hHeld hb) (fun hHeld => ?_)
      clear hK K
      (try simp only [Act.put, List.setIfInBounds_toArray, List.set_cons_zero, List.set_cons_succ])
      refine take_want (i := 30) (v := (.bool true)) rfl (by kernel_rfl) (by kernel_rfl) (by kernel_rfl) (fun _ _ _ h => h) (by rfl) ?y30k9 (by assumption) ?r30k9
      case y30k9 => (intro w hSw; go_simp; (try simp))
      (try simp only [Act.put, List.setIfInBounds_toArray, List.set_cons_zero, List.set_cons_succ])
      refine take_want (i := 31) (v := ?v31k9) rfl (by kernel_rfl) (by kernel_rfl) (by kernel_rfl) (fun _ _ _ h => h) (by rfl) ?y31k9 (by assumption) ?r31k9
      case y31k9 => (intro w hSw; go_simp; all_goals with_reducible rfl)
      (try simp only [Act.put, List.setIfInBounds_toArray, List.set_cons_zero, List.set_cons_succ])
      refine take_want (i := 32) (v := ?v32k9) rfl (by kernel_rfl) (by kernel_rfl) (by kernel_rfl) (fun _ _ _ h => h) (by rfl) ?y32k9 (by assumption) ?r32k9
      case y32k9 => (intro w hSw; go_simp; all_goals with_reducible rfl)
      (try simp only [Act.put, List.setIfInBounds_toArray, List.set_cons_zero, List.set_cons_succ])
      refine wpAnyH_done (by kernel_rfl) ?_ _
      go_wp2_with fail
      go_ret
      exact ⟨rfl, bthen HB1.out (bthen HBW.out hHeld)⟩
    · go_simp
      obtain ⟨x1, hx1⟩ : ∃ x1, x1 = w22.alloc (.cells #[.int .i64 t1, .slice D1 n1 c1, .int .i64 u1, .slice G1 gn1 gc1] 27) := ⟨_, rfl⟩
      have hbx1 : Below w22.heap.size w22 x1 := by rw [hx1]; exact bpush (Below.refl _ _) _
      have HRA := Lib.hid (show Row x1 (some ⟨w22.heap.size, 0, none⟩) (cellsR [(⟨D1, n1, c1, G1, gn1, gc1⟩, ⟨t1, L1, u1, X1⟩)]) by rw [hx1]; exact Row.made rfl rfl)
      rw [← hx1]
      refine hK.out _ _ (bthen hHeld hbx1) (fun hHeld => ?_)
      clear hK K hbx1 hx1
      (try simp only [Act.put, List.setIfInBounds_toArray, List.set_cons_zero, List.set_cons_succ])
      refine wpAnyH_ready (rs := [23]) (by kernel_rfl) (by simp) ?_
      refine AllReadyH.cons rfl (fun K hK => ?_) AllReadyH.nil
      go_simp
      obtain ⟨x2, hx2⟩ : ∃ x2, x2 = x1.alloc (.cells #[.int .i64 t0, .slice D0 n0 c0, .int .i64 u0, .slice G0 gn0 gc0] 27) := ⟨_, rfl⟩
      have hbx2 : Below x1.heap.size x1 x2 := by rw [hx2]; exact bpush (Below.refl _ _) _
      have HRB := Lib.hid (show Row x2 (some ⟨x1.heap.size, 0, none⟩) (cellsR [(⟨D0, n0, c0, G0, gn0, gc0⟩, ⟨t0, L0, u0, X0⟩)]) by rw [hx2]; exact Row.made rfl rfl)
      have HRA := Lib.hid (HRA.out.keep (Nat.le_refl _) hbx2)
      rw [← hx2]
      refine hK.out _ _ (bthen hHeld hbx2) (fun hHeld => ?_)
      clear hK K hbx2 hx2
      (try simp only [Act.put, List.setIfInBounds_toArray, List.set_cons_zero, List.set_cons_succ])
      have hwx := bthen HBW.out hHeld
      have HSM := Lib.hid (same_any (some ⟨x1.heap.size, 0, none⟩) (some ⟨w22.heap.size, 0, none⟩) 1 1 1 1 [⟨t0, L0, u0, X0⟩] [⟨t1, L1, u1, X1⟩] x2 (rowsM0 HRB.out (fun z hz => by rw [List.mem_singleton.1 hz]; exact G0D.out.keep hwx)) (rowsM0 HRA.out (fun z hz => by rw [List.mem_singleton.1 hz]; exact G1D.out.keep hwx)) rfl rfl (by decide) (by decide) sb (by rw [HSB.out]; simp))
      refine wpAnyH_ready (rs := [26]) (by kernel_rfl) (by simp) ?_
      refine AllReadyH.cons rfl (fun K hK => ?_) AllReadyH.nil
      go_simp
      (go_at_call 22; refine HSM.out.mono ?_; rintro e x3 ⟨rfl, hb⟩)
      refine hK.out _ _ (bthen hHeld hb) (fun hHeld => ?_)
      clear hK K
      (try simp only [Act.put, List.setIfInBounds_toArray, List.set_cons_zero, List.set_cons_succ])
      refine wpAnyH_ready (rs := [29]) (by kernel_rfl) (by simp) ?_
      refine AllReadyH.cons rfl (fun K hK => ?_) AllReadyH.nil
      go_simp
      (go_at_call 15; refine (HOB.out _ (bthen HBW.out hHeld)).mono ?_; rintro e x4 ⟨rfl, hb⟩)
      refine hK.out _ _ (bthen hHeld hb) (fun hHeld => ?_)
      clear hK K
      (try simp only [Act.put, List.setIfInBounds_toArray, List.set_cons_zero, List.set_cons_succ])
      refine take_want (i := 30) (v := (.bool true)) rfl (by kernel_rfl) (by kernel_rfl) (by kernel_rfl) (fun _ _ _ h => h) (by rfl) ?y30k10 (by assumption) ?r30k10
      case y30k10 => (intro w hSw; go_simp; (try simp))
      (try simp only [Act.put, List.setIfInBounds_toArray, List.set_cons_zero, List.set_cons_succ])
      refine take_want (i := 31) (v := ?v31k10) rfl (by kernel_rfl) (by kernel_rfl) (by kernel_rfl) (fun _ _ _ h => h) (by rfl) ?y31k10 (by assumption) ?r31k10
      case y31k10 => (intro w hSw; go_simp; all_goals with_reducible rfl)
      (try simp only [Act.put, List.setIfInBounds_toArray, List.set_cons_zero, List.set_cons_succ])
      refine take_want (i := 32) (v := ?v32k10) rfl (by kernel_rfl) (by kernel_rfl) (by kernel_rfl) (fun _ _ _ h => h) (by rfl) ?y32k10 (by assumption) ?r32k10
      case y32k10 => (intro w hSw; go_simp; all_goals with_reducible rfl)
      (try simp only [Act.put, List.setIfInBounds_toArray, List.set_cons_zero, List.set_cons_succ])
      refine wpAnyH_done (by kernel_rfl) ?_ _
      go_wp2_with fail
      go_ret
      exact ⟨rfl, bthen HB1.out (bthen HBW.out hHeld)⟩
end Go.Proofs.Ytlfhjjlgmhkepaa
