/- RowsBoth: the law returns true for every input, and its arguments read as before. No condition. -/
import Derived.Test.YtlfhjjlgmhkepaaRV
import Derived.ProofKit
import Derived.OpenShut
import Derived.ShutString
import Derived.ChangeOld
import Derived.Below
import Derived.Lib.SmallJoins
namespace Go.Proofs.Ytlfhjjlgmhkepaa.rowsBoth
open Go.ChangeShapes Go.WideShapes Go.ChangeAt Go.RowKit Go.Joins
open Go.ChangeMaps (open_string shut_string)
set_option linter.unusedVariables false
set_option maxRecDepth 100000 in
theorem two_opened {H : Type} {enc : TypeId × Value → H} {w : World} {base : Nat} {spare : Nat → Bool} {held : Bool} {r : Reach} {b0 : Nat} {v : Value} {d : DataW H} {p : List MemPlace} (hv : Value.okWide Try.prog w r b0 40 v) (h : DataW.Trod enc Try.prog w base spare held 40 v d p) :
    ∃ z0 z1 : RZ, v = .agg (cellsR [z0, z1]).toArray ∧ (Good0 w z0 ∧ ∀ s ∈ z0.2.dims, s.size ≤ 9223372036854775807) ∧ (Good0 w z1 ∧ ∀ s ∈ z1.2.dims, s.size ≤ 9223372036854775807) := by
  have hC : Try.prog.cellsOf 40 = 8 := by kernel_rfl
  have hc27 : Try.prog.cellsOf 27 = 4 := by kernel_rfl
  simp only [Value.okWide, Try.underlying40] at hv
  obtain ⟨cs, rfl, hsz, _⟩ := hv
  obtain ⟨fuel, hf⟩ := h
  obtain ⟨xs, m, _, _, _, hl, hi⟩ := DataW.trod_array Try.underlying40 hf
  have hs8 : cs.toList.length = 8 := by have := hsz.trans hC; simpa using this
  obtain ⟨l, hcl⟩ : ∃ l, l = cs.toList := ⟨_, rfl⟩
  have hca : cs = l.toArray := by rw [hcl]
  rw [← hcl] at hs8
  subst hca
  match l, hs8 with
  | [a0, a1, a2, a3, a4, a5, a6, a7], _ =>
    match xs, hl with
    | [y0, y1], _ =>
      have h0 := hi 0 (by omega)
      have h1 := hi 1 (by omega)
      rw [hc27] at h0 h1
      obtain ⟨z0, e0, g0, s0⟩ := row_opened4 (x := y0) (c0 := a0) (c1 := a1) (c2 := a2) (c3 := a3) (by simpa [Value.cells] using h0)
      obtain ⟨z1, e1, g1, s1⟩ := row_opened4 (x := y1) (c0 := a4) (c1 := a5) (c2 := a6) (c3 := a7) (by simpa [Value.cells] using h1)
      refine ⟨z0, z1, ?_, ⟨g0, s0⟩, ⟨g1, s1⟩⟩
      congr 1
      show _ = (encR z0 ++ (encR z1 ++ [])).toArray
      rw [← e0, ← e1]; rfl
theorem both_all (A B : Option Addr) (n c m d : Nat) (L M : List ByteArray) (z0 z1 : RZ) (w : World) (hA : Row w A (texts L)) (hB : Row w B (texts M)) (hn : n = L.length) (hm : m = M.length) (hnc : n ≤ c) (hmd : m ≤ d) (ha : A = none → c = 0) (hb : B = none → d = 0)
    (hL : ∀ s ∈ L, s.size ≤ 9223372036854775807) (hM : ∀ s ∈ M, s.size ≤ 9223372036854775807) (hc : c ≤ 9223372036854775807) (hd : d ≤ 9223372036854775807)
    (h0 : Good0 w z0 ∧ ∀ s ∈ z0.2.dims, s.size ≤ 9223372036854775807) (h1 : Good0 w z1 ∧ ∀ s ∈ z1.2.dims, s.size ≤ 9223372036854775807) :
    Calls Try.prog 4 #[.agg #[.slice A n c, .slice B m d], .agg (cellsR [z0, z1]).toArray] w fun e w' => e = .returned (.bool true) ∧ Below w.heap.size w w' :=
  both_walk A B n c m d L M z0.2.t z0.2.count z0.1.D z0.1.G z0.1.n z0.1.c z0.1.gn z0.1.gc z0.2.dims z0.2.aggs z1.2.t z1.2.count z1.1.D z1.1.G z1.1.n z1.1.c z1.1.gn z1.1.gc z1.2.dims z1.2.aggs w hA hB hn hm hnc hmd ha hb hL hM (Nat.le_trans hnc hc) (Nat.le_trans hmd hd) h0.1 h0.2 h1.1 h1.2

theorem own : ownKnob Try.prog.godebug = none := by kernel_rfl
theorem laidOut : laidOutB Try.prog = true := by kernel_rfl
set_option maxRecDepth 100000 in
set_option maxHeartbeats 2000000 in
theorem lifted (os : Os) (started : os.Started) (H : Type) (enc : TypeId × Value → H) :
    ReturnsInHanded {} Try.checked os 4 .any (Rows.rowsBothSpec.pre6 enc Try.prog Try.f4 Rows.rowsBothRow.domain false) (Rows.rowsBothSpec.post enc Try.prog Try.f4 false true false false) := by
  refine returnsInHanded_of_change (C := Try.checked) own started (by kernel_rfl) Try.func4
    (ChangeSpec.witness6 (enc := enc) (C := Try.checked) false ⟨#[], #[.agg #[.slice none 0 0, .slice none 0 0], .agg #[.int .i64 0, .slice none 0 0, .int .i64 0, .slice none 0 0, .int .i64 0, .slice none 0 0, .int .i64 0, .slice none 0 0]], []⟩ 8 (by kernel_rfl) (by kernel_rfl) (by kernel_rfl) (by kernel_rfl)) ?_
  intro W base args ds gs before hval0 hW hcnd _
  have hval : ∀ (j : Nat) t v, Try.f4.params[j]? = some t → args[j]? = some v → Value.okWide Try.prog W .any base t v := hval0
  have hW' := hW
  obtain ⟨p, q, hA0, hV, rfl, hfz, hnd⟩ := hW
  have hA : DataW.TrodAll enc Try.prog W 0 (fun _ => true) true Try.f4.params.toList args.toList ds p := hA0
  rw [Try.params4] at hA hval
  obtain ⟨v0, vs0, d0, ds0, p0, q0, hargs, rfl, rfl, h0, r0⟩ := trodAll_cons hA
  obtain ⟨v1, vs1, d1, ds1, p1, q1, rfl, rfl, rfl, h1, r1⟩ := trodAll_cons r0
  obtain ⟨rfl, rfl, rfl⟩ := trodAll_nil r1
  obtain rfl : args = #[v0, v1] := by cases args; simp_all
  obtain ⟨rfl, rfl⟩ := trodVars_none hV
  have k0 := h0
  have lt0 : ∀ x ∈ p0, x.block < W.heap.size := by obtain ⟨m, hm⟩ := k0; exact DataW.trod_lt m _ _ _ hm
  obtain ⟨u00, u01, y00, y01, m0, rfl, hd0, hp0, hy00, hy01⟩ := open_agg2 Try.underlying24 (by kernel_rfl) (by kernel_rfl) (hval 0 24 v0 rfl rfl) h0
  obtain ⟨L00, a00, n00, c00, rfl, w00, hn00, hnc00, hc00, hs00, ha00⟩ := strs_opened hy00
  obtain ⟨L01, a01, n01, c01, rfl, w01, hn01, hnc01, hc01, hs01, ha01⟩ := strs_opened hy01
  have k1 := h1
  have lt1 : ∀ x ∈ p1, x.block < W.heap.size := by obtain ⟨m, hm⟩ := k1; exact DataW.trod_lt m _ _ _ hm
  obtain ⟨z10, z11, rfl, g10, g11⟩ := two_opened (hval 1 40 v1 rfl rfl) h1
  clear hA0 hval0
  refine (both_all a00 a01 n00 c00 n01 c01 L00 L01 z10 z11 W w00 w01 hn00 hn01 hnc00 hnc01 ha00 ha01 hs00 hs01 hc00 hc01 g10 g11).mono fun e W' ⟨he, bel⟩ => ?_
  subst he
  exact ⟨_, rfl, _, _, _, [], _, [], hW', trodAll_mk1 (shut_bool Try.underlying4 _), (trodAll_cons_mk (Below.trod laidOut (by kernel_rfl) (of_decide_eq_true (by kernel_rfl)) k0 bel lt0) (trodAll_cons_mk (Below.trod laidOut (by kernel_rfl) (of_decide_eq_true (by kernel_rfl)) k1 bel lt1) trodAll_mk0)), rfl, bel.frame _, fun h => by cases h⟩
theorem holds : Rows.RowsBothSaid :=
  OpenClaim.holds_of_wide 4 Try.f4 rfl rfl rfl rfl rfl rfl rfl ⟨rfl, rfl, rfl, rfl, rfl⟩ rfl rfl rfl rfl rfl (by kernel_rfl) Try.func4 (by kernel_rfl)
    (of_decide_eq_true (by kernel_rfl)) (by unfold Func.isWrapper; first | (rw [if_pos (by decide +kernel)]; kernel_rfl) | (rw [if_neg (by decide +kernel)]; exact ⟨rfl, rfl⟩))
    (fun os started H enc _ => lifted os started H enc)
end Go.Proofs.Ytlfhjjlgmhkepaa.rowsBoth
