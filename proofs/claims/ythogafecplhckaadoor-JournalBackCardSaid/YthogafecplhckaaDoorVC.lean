/- The vault's small acts: the fuse, a file in its place, a file gone. -/
import Derived.Test.YthogafecplhckaaDoorVB
import Derived.StillTailTactics
namespace Go.Proofs.YthogafecplhckaaDoor
open Go.RowKit Go.Maps
set_option linter.unusedSimpArgs false
set_option linter.unusedVariables false
def lkF (F : List FZ) (s : ByteArray) : FZ := (lookF F s).getD ⟨s, none, 0, 0, 0, []⟩
theorem keyed9 : Keyed Tryd.prog 9 := string_keyed Tryd.underlying9
theorem zero63 (w : World) : (zeroValue 70).run Tryd.prog w = .ok (.agg #[.slice none 0 0, .int .i64 0]) w := by kernel_rfl
theorem at_lk (F : List FZ) (s : ByteArray) : (mapD F).atKey (.string (dat s)) (.held (.agg #[.slice none 0 0, .int .i64 0])) = .held (lkF F s).val := by
  rw [mapD_at]; unfold lkF
  cases lookF F s <;> rfl
theorem look_run {w : World} {a : Nat} {V : VZ} (h : VCore w a V) (s : ByteArray) (hs : s.size ≤ 9223372036854775807) (m : Nat) :
    (Instr.lookup 64 (.map (some V.b)) (.string s) false).run Tryd.prog (w.drewN m) = .ok (lkF V.F s).val (w.drewN m) ∧ (Instr.lookup 64 (.map (some V.b)) (.string s) true).run Tryd.prog (w.drewN m) = .ok (.tuple #[(lkF V.F s).val, .bool (lookF V.F s).isSome]) (w.drewN m) := by
  obtain ⟨n, hn⟩ := h.map
  have hn' : (w.drewN m).ownsMap Tryd.prog 9 heldR V.b n (mapD V.F) := hn
  have hk : keyOf Tryd.prog 9 (.string s) = some (.string (dat s)) := Go.WideMaps.keyOf_string_mk Tryd.underlying9 (by unfold maxLen; omega)
  constructor
  · obtain ⟨v, ps, hr, hv⟩ := hn'.lookup (t := 64) (e := 70) keyed9 Tryd.underlying64 (zero63 _) (zd := .held (.agg #[.slice none 0 0, .int .i64 0])) (zp := []) rfl hk
    rw [at_lk] at hv
    unfold heldR at hv
    cases hv
    exact hr
  · obtain ⟨v, ps, hr, hv⟩ := hn'.look_ok (t := 64) (e := 70) keyed9 Tryd.underlying64 (zero63 _) (zd := .held (.agg #[.slice none 0 0, .int .i64 0])) (zp := []) rfl hk
    rw [at_lk] at hv
    unfold heldR at hv
    cases hv
    rw [← mapD_has]
    exact hr
def actZ (V : VZ) : VZ := if V.armed = true ∧ 0 < V.fuse then { V with fuse := V.fuse - 1 } else V
def brkZ (V : VZ) : Bool := V.armed && V.fuse == 0
def errZ (V : VZ) : Int := if brkZ (actZ V) then 272 else 0
theorem VCore.set {w : World} {a : Nat} {V : VZ} (h : VCore w a V) (i : Nat) (v : Value) (V' : VZ) (hc : #[Value.int .i64 V.room, .int .i64 (usedF V.F : Int), .map (some V.b), .bool V.armed, .int .i64 V.fuse].setIfInBounds i v = #[.int .i64 V'.room, .int .i64 (usedF V'.F : Int), .map (some V'.b), .bool V'.armed, .int .i64 V'.fuse])
    (hb : V'.b = V.b) (hF : V'.F = V.F) (hr : V'.room ≤ 16777216) (hf : V'.fuse ≤ 9223372036854775807) : VCore (w.setCell ⟨a, i, none⟩ v) a V' := by
  have hfr : Fr (fun j => j = a) w (w.setCell ⟨a, i, none⟩ v) := (Fr.refl (fun j => j = a) w).set_ (.inl (show a = a from rfl)) v
  refine ⟨?_, ?_, by rw [hF]; exact h.one, by rw [hF]; exact h.used, hr, hf, by rw [hF]; exact h.len⟩
  · have := h.blk.set_ i v; rw [hc] at this; exact this
  · obtain ⟨n, es, clock, e, r⟩ := h.map
    refine ⟨n, es, clock, ?_, by rw [hF]; exact r⟩
    rw [hb]
    exact (hfr.block V.b h.lb (fun e => h.ne e.symm)).trans e
set_option maxRecDepth 100000 in
set_option maxHeartbeats 4000000 in
theorem broken_any (a : Nat) (V : VZ) (w : World) (h : VCore w a V) : Calls Tryd.prog 17 #[.pointer (some ⟨a, 0, none⟩)] w fun e w' => e = .returned (.bool (brkZ V)) ∧ w = w' := by
  have c3 := h.blk.cell 3
  have c4 := h.blk.cell 4
  simp at c3 c4
  obtain ⟨x, hx⟩ : ∃ x, x = brkZ V := ⟨_, rfl⟩
  rw [← hx]
  have HX := Lib.hid hx
  clear hx h
  obtain ⟨room, armed, fuse, b, F⟩ := V
  simp only at c3 c4
  cases armed with
  | false =>
    obtain rfl : x = false := HX.out
    go_enter Tryd.func17, Tryd.ntmps17
    go_wp2_with fail
    go_ret
    exact ⟨rfl, rfl⟩
  | true =>
    cases fuse with
    | zero =>
      obtain rfl : x = true := HX.out
      go_enter Tryd.func17, Tryd.ntmps17
      go_wp2_with fail
      go_ret
      exact ⟨rfl, rfl⟩
    | succ k =>
      obtain rfl : x = false := HX.out
      have k1 : (((k + 1 : Nat) : Int) == 0) = false := by simp; omega
      go_enter Tryd.func17, Tryd.ntmps17
      go_wp2_with fail
      go_ret
      exact ⟨rfl, rfl⟩
def ActPost (w : World) (a : Nat) (V : VZ) (e : Ending) (w' : World) : Prop := e = .returned (.int .i64 (errZ V)) ∧ VCore w' a (actZ V) ∧ Fr (fun i => i = a) w w'
set_option maxRecDepth 100000 in
set_option maxHeartbeats 4000000 in
theorem act_any (a : Nat) (V : VZ) (w : World) (h : VCore w a V) : Calls Tryd.prog 27 #[.pointer (some ⟨a, 0, none⟩)] w (ActPost w a V) := by
  have c3 := h.blk.cell 3
  have c4 := h.blk.cell 4
  have f4 := h.blk.frozen 4
  have hfu := h.fuse
  simp at c3 c4
  obtain ⟨V', hV'⟩ : ∃ V', V' = actZ V := ⟨_, rfl⟩
  obtain ⟨x, hx⟩ : ∃ x, x = brkZ V' := ⟨_, rfl⟩
  have HV := Lib.hid hV'
  have HX := Lib.hid hx
  have HE := Lib.hid (show errZ V = if x then 272 else 0 by unfold errZ; rw [hx, hV'])
  clear hx hV'
  have HH := Lib.hid h
  clear h
  obtain ⟨room, armed, fuse, b, F⟩ := V
  simp only at c3 c4 hfu
  by_cases hc : armed = true ∧ 0 < fuse
  case pos =>
    obtain ⟨rfl, hpos⟩ := hc
    obtain ⟨k, rfl⟩ : ∃ k, fuse = k + 1 := ⟨fuse - 1, by omega⟩
    have hv' : V' = ⟨room, true, k, b, F⟩ := by rw [HV.out]; unfold actZ; simp
    have HC := Lib.hid (HH.out.set 4 (.int .i64 (k : Int)) ⟨room, true, k, b, F⟩ rfl rfl rfl HH.out.room (by show k ≤ _; omega))
    have HBR := Lib.hid (show x = brkZ ⟨room, true, k, b, F⟩ by rw [HX.out, hv'])
    have HV2 := Lib.hid hv'
    have hk1 : ((k + 1 : Nat) : Int) - 1 = (k : Int) := by omega
    have hk2 : (0 : Int) < ((k + 1 : Nat) : Int) := by omega
    obtain ⟨w1, hw1⟩ : ∃ w1, w1 = w.setCell ⟨a, 4, none⟩ (.int .i64 (k : Int)) := ⟨_, rfl⟩
    have HW := Lib.hid hw1
    have HFR := Lib.hid (show Fr (fun i => i = a) w w1 by rw [hw1]; exact (Fr.refl (fun j => j = a) _).set_ (.inl (show a = a from rfl)) _)
    rw [← hw1] at HC
    have HB := Lib.hid (broken_any a _ w1 HC.out)
    clear hw1 hv' HX HV HH
    go_enter Tryd.func27, Tryd.ntmps27
    go_upto_region 2 with fail
    go_upto_region 3 with fail
    rw [← HW.out]
    cases x with
    | true =>
      have hb := HBR.out.symm
      rw [hb] at HB
      go_wp2_with (go_at_call 17; refine HB.out.mono ?_; rintro e w2 ⟨rfl, rfl⟩)
      go_ret
      exact ⟨by rw [HE.out]; rfl, by rw [show actZ ⟨room, true, k + 1, b, F⟩ = ⟨room, true, k, b, F⟩ by unfold actZ; simp]; exact HC.out, HFR.out⟩
    | false =>
      have hb := HBR.out.symm
      rw [hb] at HB
      go_wp2_with (go_at_call 17; refine HB.out.mono ?_; rintro e w2 ⟨rfl, rfl⟩)
      go_ret
      exact ⟨by rw [HE.out]; rfl, by rw [show actZ ⟨room, true, k + 1, b, F⟩ = ⟨room, true, k, b, F⟩ by unfold actZ; simp]; exact HC.out, HFR.out⟩
  case neg =>
    have hv : actZ ⟨room, armed, fuse, b, F⟩ = ⟨room, armed, fuse, b, F⟩ := by unfold actZ; rw [if_neg hc]
    have HV2 := Lib.hid hv
    have HB := Lib.hid (broken_any a _ w HH.out)
    have HBR := Lib.hid (show x = brkZ ⟨room, armed, fuse, b, F⟩ by rw [HX.out, HV.out, hv])
    have hcc : armed = false ∨ (armed = true ∧ fuse = 0) := by cases armed <;> simp at hc ⊢; omega
    clear hv HX HV hc
    rcases hcc with rfl | ⟨rfl, rfl⟩
    · obtain rfl : x = false := HBR.out
      go_enter Tryd.func27, Tryd.ntmps27
      go_wp2_with (go_at_call 17; refine HB.out.mono ?_; rintro e w2 ⟨rfl, rfl⟩)
      go_ret
      exact ⟨by rw [HE.out]; rfl, by rw [HV2.out]; exact HH.out, Fr.refl _ _⟩
    · obtain rfl : x = true := HBR.out
      go_enter Tryd.func27, Tryd.ntmps27
      go_wp2_with (go_at_call 17; refine HB.out.mono ?_; rintro e w2 ⟨rfl, rfl⟩)
      go_ret
      exact ⟨by rw [HE.out]; rfl, by rw [HV2.out]; exact HH.out, Fr.refl _ _⟩
end Go.Proofs.YthogafecplhckaaDoor
