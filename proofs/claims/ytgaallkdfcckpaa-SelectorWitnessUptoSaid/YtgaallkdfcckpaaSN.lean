/- file (67), files (45): a manifest in memory. -/
import Derived.Test.YtgaallkdfcckpaaSM
import Derived.Test.YtgaallkdfcckpaaSE
import Derived.BigQuiet
import Derived.Deep.RegionHeld3
namespace Go.Proofs.Ytgaallkdfcckpaa
open Go.RowKit Go.Maps Go.Lib Go.Shelf
set_option linter.unusedSimpArgs false
set_option linter.unusedVariables false
structure MZ where
  dA : Option Addr
  dn : Nat
  dc : Nat
  D : List ByteArray
  mA : Option Addr
  mn : Nat
  mc : Nat
  M : List ByteArray
  p : PZ
  now : Int
  eA : Option Addr
  en : Nat
  ec : Nat
  E : List Int
  cnt : Int
  sA : Option Addr
  sn : Nat
  sc : Nat
  S : List Int
  fA : Option Addr
  fn : Nat
  fc : Nat
  F : List SZ
  jr : ByteArray
  nxt : Int
structure MIn (w : World) (m : MZ) : Prop where
  d : StrsIn w m.dA m.dn m.dc m.D
  mm : StrsIn w m.mA m.mn m.mc m.M
  pi : PIn w m.p
  e : Row w m.eA (m.E.map (Value.int .i64))
  el : m.en = m.E.length
  em : m.en ≤ 9223372036854775807
  s : Row w m.sA (m.S.map (Value.int .i64))
  sl : m.sn = m.S.length
  sm : m.sn ≤ 9223372036854775807
  f : Row w m.fA (cellsS m.F)
  fl : m.fn = m.F.length
  fm : m.fn ≤ 9223372036854775807
  fs : ∀ z ∈ m.F, z.name.size ≤ 9223372036854775807
  js : m.jr.size ≤ 9223372036854775807
theorem MIn.keep {w w' : World} {B : Nat} {m : MZ} (h : MIn w m) (hB : w.heap.size ≤ B) (hb : Below B w w') : MIn w' m :=
  { h with d := h.d.keep hB hb, mm := h.mm.keep hB hb, pi := h.pi.keep hB hb, e := h.e.keep hB hb, s := h.s.keep hB hb, f := h.f.keep hB hb }
theorem m_cells {m : MZ} {W : World} {G : Nat} (h : Blk W G 34 #[.slice m.dA m.dn m.dc, .slice m.mA m.mn m.mc, .slice m.p.tA m.p.tn m.p.tc, .slice m.p.jA m.p.jn m.p.jc, .int .i64 m.p.hor, .int .i64 m.now, .slice m.eA m.en m.ec, .int .i64 m.cnt, .slice m.sA m.sn m.sc, .slice m.fA m.fn m.fc, .string m.jr, .int .i64 m.nxt]) : W.cell? ⟨G, 0, none⟩ = some (.slice m.dA m.dn m.dc) ∧ W.cell? ⟨G, 1, none⟩ = some (.slice m.mA m.mn m.mc) ∧ W.cell? ⟨G, 2, none⟩ = some (.slice m.p.tA m.p.tn m.p.tc) ∧ W.cell? ⟨G, 3, none⟩ = some (.slice m.p.jA m.p.jn m.p.jc) ∧ W.cell? ⟨G, 4, none⟩ = some (.int .i64 m.p.hor) ∧ W.cell? ⟨G, 5, none⟩ = some (.int .i64 m.now) ∧ W.cell? ⟨G, 6, none⟩ = some (.slice m.eA m.en m.ec) ∧ W.cell? ⟨G, 7, none⟩ = some (.int .i64 m.cnt) ∧ W.cell? ⟨G, 8, none⟩ = some (.slice m.sA m.sn m.sc) ∧ W.cell? ⟨G, 9, none⟩ = some (.slice m.fA m.fn m.fc) ∧ W.cell? ⟨G, 10, none⟩ = some (.string m.jr) ∧ W.cell? ⟨G, 11, none⟩ = some (.int .i64 m.nxt) :=
  ⟨by rw [h.cell 0]; rfl, by rw [h.cell 1]; rfl, by rw [h.cell 2]; rfl, by rw [h.cell 3]; rfl, by rw [h.cell 4]; rfl, by rw [h.cell 5]; rfl, by rw [h.cell 6]; rfl, by rw [h.cell 7]; rfl, by rw [h.cell 8]; rfl, by rw [h.cell 9]; rfl, by rw [h.cell 10]; rfl, by rw [h.cell 11]; rfl⟩
set_option maxRecDepth 100000 in
set_option maxHeartbeats 16000000 in
theorem file67 (p : PZ) (z : SZ) (w : World) (hp : PIn w p) (hs : z.name.size ≤ 9223372036854775807) : Calls Try.prog 67 #[.agg #[.slice p.tA p.tn p.tc, .slice p.jA p.jn p.jc, .int .i64 p.hor], .agg #[.string z.name, .int .i64 z.tier, .int .i64 z.proj, .int .i64 z.rows]] w (BoolB w (FileOk p z)) := by
  obtain ⟨wa, hwa⟩ : ∃ wa, wa = w.alloc (.cells #[.slice p.tA p.tn p.tc, .slice p.jA p.jn p.jc, .int .i64 p.hor] 28) := ⟨_, rfl⟩
  obtain ⟨w1, hw1⟩ : ∃ w1, w1 = wa.alloc (.cells #[.string z.name, .int .i64 z.tier, .int .i64 z.proj, .int .i64 z.rows] 57) := ⟨_, rfl⟩
  have ba : Below w.heap.size w wa := by rw [hwa]; exact bpush (Below.refl _ _) _
  have bb : Below wa.heap.size wa w1 := by rw [hw1]; exact bpush (Below.refl _ _) _
  have kP : Blk wa w.heap.size 28 #[.slice p.tA p.tn p.tc, .slice p.jA p.jn p.jc, .int .i64 p.hor] := by rw [hwa]; exact Blk.new _ _ _
  have kZ : Blk w1 wa.heap.size 57 #[.string z.name, .int .i64 z.tier, .int .i64 z.proj, .int .i64 z.rows] := by rw [hw1]; exact Blk.new _ _ _
  have sza : wa.heap.size = w.heap.size + 1 := by rw [hwa]; simp
  rw [sza] at kZ
  have kP := kP.below bb
  have HB1 := Lib.hid (bthen ba bb)
  obtain ⟨P, hPe⟩ : ∃ P, P = w.heap.size := ⟨_, rfl⟩
  obtain ⟨G, hGe⟩ : ∃ G, G = w.heap.size + 1 := ⟨_, rfl⟩
  rw [← hPe] at kP
  rw [← hGe] at kZ
  have HP := Lib.hid (hp.keep (Nat.le_refl _) (bthen ba bb))
  have HW1 := Lib.hid (show w1 = (w.alloc (.cells #[.slice p.tA p.tn p.tc, .slice p.jA p.jn p.jc, .int .i64 p.hor] 28)).alloc (.cells #[.string z.name, .int .i64 z.tier, .int .i64 z.proj, .int .i64 z.rows] 57) by rw [hw1, hwa])
  have HE2 := Lib.hid (And.intro hPe hGe)
  obtain ⟨nm, hnm⟩ : ∃ y, y = z.name := ⟨_, rfl⟩
  obtain ⟨xt, hxt⟩ : ∃ y, y = z.tier := ⟨_, rfl⟩
  obtain ⟨xj, hxj⟩ : ∃ y, y = z.proj := ⟨_, rfl⟩
  obtain ⟨xr, hxr⟩ : ∃ y, y = z.rows := ⟨_, rfl⟩
  obtain ⟨tn, htn⟩ : ∃ y, y = p.tn := ⟨_, rfl⟩
  obtain ⟨jA, hjA⟩ : ∃ y, y = p.jA := ⟨_, rfl⟩
  obtain ⟨jn, hjn⟩ : ∃ y, y = p.jn := ⟨_, rfl⟩
  obtain ⟨jc, hjc⟩ : ∃ y, y = p.jc := ⟨_, rfl⟩
  have z0 : w1.cell? ⟨G, 0, none⟩ = some (.string nm) := by rw [kZ.cell 0, hnm]; rfl
  have z1 : w1.cell? ⟨G, 1, none⟩ = some (.int .i64 xt) := by rw [kZ.cell 1, hxt]; rfl
  have z2 : w1.cell? ⟨G, 2, none⟩ = some (.int .i64 xj) := by rw [kZ.cell 2, hxj]; rfl
  have z3 : w1.cell? ⟨G, 3, none⟩ = some (.int .i64 xr) := by rw [kZ.cell 3, hxr]; rfl
  have p0 : w1.cell? ⟨P, 0, none⟩ = some (.slice p.tA tn p.tc) := by rw [htn]; exact (p_cells kP).1
  have p1 : w1.cell? ⟨P, 1, none⟩ = some (.slice jA jn jc) := by rw [hjA, hjn, hjc]; exact (p_cells kP).2.1
  have HJR := Lib.hid (show Row w1 jA (cellsTZ p.J) by rw [hjA]; exact HP.out.j.row)
  have HTN := Lib.hid (show tn = p.T.length by rw [htn]; exact HP.out.t.len)
  have HJN := Lib.hid (show jn = p.J.length by rw [hjn]; exact HP.out.j.len)
  have htm : tn ≤ 9223372036854775807 := by rw [htn]; exact HP.out.t.max
  have hjm : jn ≤ 9223372036854775807 := by rw [hjn]; exact HP.out.j.max
  have HNM := Lib.hid (name68 nm w1 (by rw [hnm]; exact hs))
  have HEQ := Lib.hid (And.intro hxt (And.intro hxj hxr))
  clear hwa hw1 ba bb kP kZ sza hp hs hPe hGe hnm hxt hxj hxr htn hjA hjn hjc
  go_enter Try.func67, Try.ntmps67
  go_upto_region 1 with fail
  rw [← HW1.out, ← HE2.out.2, ← HE2.out.1]
  go_upto_region 2 with (go_at_call 68; refine HNM.out.mono ?_; rintro e w2 ⟨⟨r, rfl, -⟩, rfl⟩)
  cases r with
  | false =>
    go_wp2_with fail
    go_ret
    exact ⟨⟨_, rfl, fun h => by cases h⟩, HB1.out⟩
  | true =>
  by_cases n1 : nm = ⟨#[109, 97, 110, 105, 102, 101, 115, 116]⟩
  · subst n1
    go_wp2_with fail
    go_ret
    exact ⟨⟨_, rfl, fun h => by cases h⟩, HB1.out⟩
  have n1b := str_ne_lit (l := [109, 97, 110, 105, 102, 101, 115, 116]) n1
  by_cases n2 : nm = ⟨#[109, 97, 110, 105, 102, 101, 115, 116, 46, 110, 101, 119]⟩
  · subst n2
    clear n1
    go_wp2_with fail
    go_ret
    exact ⟨⟨_, rfl, fun h => by cases h⟩, HB1.out⟩
  have n2b := str_ne_lit (l := [109, 97, 110, 105, 102, 101, 115, 116, 46, 110, 101, 119]) n2
  clear n1 n2
  by_cases r0 : xr < 0
  · have d0 : decide (xr < 0) = true := by simp [r0]
    go_wp2_with fail
    go_ret
    exact ⟨⟨_, rfl, fun h => by cases h⟩, HB1.out⟩
  have d0 : decide (xr < 0) = false := by simp; omega
  by_cases r1 : 65536 < xr
  · have d1 : decide (65536 < xr) = true := by simp [r1]
    go_wp2_with fail
    go_ret
    exact ⟨⟨_, rfl, fun h => by cases h⟩, HB1.out⟩
  have d1 : decide (65536 < xr) = false := by simp; omega
  by_cases t0 : xt < 0
  · have e0 : decide (xt < 0) = true := by simp [t0]
    go_wp2_with fail
    go_ret
    exact ⟨⟨_, rfl, fun h => by cases h⟩, HB1.out⟩
  have e0 : decide (xt < 0) = false := by simp; omega
  by_cases t1 : (tn : Int) ≤ xt
  · have e1 : decide ((tn : Int) ≤ xt) = true := by simp [t1]
    go_wp2_with fail
    go_ret
    exact ⟨⟨_, rfl, fun h => by cases h⟩, HB1.out⟩
  have e1 : decide ((tn : Int) ≤ xt) = false := by simp; omega
  by_cases j0 : xj < -1
  · have e2 : decide (xj < -1) = true := by simp [j0]
    go_wp2_with fail
    go_ret
    exact ⟨⟨_, rfl, fun h => by cases h⟩, HB1.out⟩
  have e2 : decide (xj < -1) = false := by simp; omega
  by_cases j1 : (jn : Int) ≤ xj
  · have e3 : decide ((jn : Int) ≤ xj) = true := by simp [j1]
    go_wp2_with fail
    go_ret
    exact ⟨⟨_, rfl, fun h => by cases h⟩, HB1.out⟩
  have e3 : decide ((jn : Int) ≤ xj) = false := by simp; omega
  have HOK := Lib.hid (show (xj = -1 ∨ ∃ y, atZ p.J xj = some y ∧ y.x = xt) → FileOk p z from fun h => by
    obtain ⟨e1, e2, e3⟩ := HEQ.out
    have h1 := HTN.out
    have h2 := HJN.out
    exact ⟨by omega, by omega, by omega, by omega, by omega, by rw [← e1, ← e2]; exact h⟩)
  by_cases jm : xj = -1
  · have HOK2 := Lib.hid (HOK.out (.inl jm))
    subst jm
    go_upto_region 6 with fail
    go_quiet (fail)
    go_wp2_with fail
    go_ret
    exact ⟨⟨_, rfl, fun _ => HOK2.out⟩, HB1.out.trans (below_drewN (Below.refl _ _) _)⟩
  obtain ⟨i, rfl⟩ : ∃ i : Nat, xj = (i : Int) := ⟨xj.toNat, by omega⟩
  have hi : i < p.J.length := by have := HJN.out; omega
  have hi0 : (0 : Int) ≤ (i : Int) := by omega
  have hi1 : (i : Int) < (jn : Int) := by omega
  obtain ⟨b, off, hAe, q0, q1, q2⟩ := tz_cells HJR.out hi
  obtain ⟨jx, hjx⟩ : ∃ y, y = (p.J[i]'hi).x := ⟨_, rfl⟩
  rw [← hjx] at q0
  have jmb : ((i : Int) == -1) = false := by simp
  subst hAe
  by_cases h : jx = xt
  · have HOK2 := Lib.hid (HOK.out (.inr ⟨p.J[i], atZ_some hi, by rw [← hjx]; exact h⟩))
    subst h
    clear q1 q2 hjx jm
    go_upto_region 6 with fail
    go_quiet (fail)
    go_wp2_with fail
    go_ret
    exact ⟨⟨_, rfl, fun _ => HOK2.out⟩, HB1.out.trans (below_drewN (Below.refl _ _) _)⟩
  · have hb : (jx == xt) = false := by simp [h]
    clear q1 q2 hjx jm h
    go_upto_region 6 with fail
    go_quiet (fail)
    go_wp2_with fail
    go_ret
    exact ⟨⟨_, rfl, fun h => by cases h⟩, HB1.out.trans (below_drewN (Below.refl _ _) _)⟩
end Go.Proofs.Ytgaallkdfcckpaa
