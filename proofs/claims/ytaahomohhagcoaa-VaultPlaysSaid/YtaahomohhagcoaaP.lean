/- The live question. -/
import Derived.Test.YtaahomohhagcoaaO
import Derived.Lib.SlBytesConst
import Derived.Deep.OwnRows
namespace Go.Proofs.Ytaahomohhagcoaa
open Go.RowKit Go.Maps Go.Shelf Go.Lib
set_option linter.unusedSimpArgs false
set_option linter.unusedVariables false
theorem norm_new (r b : Nat) : normZ (newZ r b) = newZ r 0 := rfl
theorem new_rep {w w' : World} {r b a : Nat} (h : VCore w' a (newZ r b)) (ha : w.heap.size ≤ a) (hb : w.heap.size ≤ b) : VRep w' w.heap.size a (newZ r b) :=
  ⟨h, (fun f hf => by cases hf), List.Pairwise.nil, (fun f hf => by cases hf), (fun f hf => by cases hf), (fun f hf => by cases hf), ha, hb, Nat.zero_le _, Nat.zero_le _⟩
def NewP (w : World) (room : Int) (e : Ending) (w' : World) : Prop :=
  ((room < 0 ∨ 16777216 < room) ∧ e = .returned (.tuple #[.pointer none, .int .i64 1]) ∧ w = w') ∨
  (∃ r b a : Nat, room = (r : Int) ∧ r ≤ 16777216 ∧ e = .returned (.tuple #[.pointer (some ⟨a, 0, none⟩), .int .i64 0]) ∧ VRep w' w.heap.size a (newZ r b) ∧ Below w.heap.size w w')
theorem newP_any (room : Int) (w : World) (h1 : -9223372036854775808 ≤ room) (h2 : room ≤ 9223372036854775807) : Calls Try.prog 9 #[.int .i64 room] w (NewP w room) := by
  refine (new_any room w h1 h2).mono ?_
  rintro e w' (h | ⟨r, h1, h2, h3, h4, h5⟩)
  · exact .inl h
  · exact .inr ⟨r, w.heap.size, w.heap.size + 1, h1, h2, h3, new_rep h4 (Nat.le_succ _) (Nat.le_refl _), h5⟩
theorem newG_any (room : Nat) (w : World) (h : room ≤ 16777216) : Calls Try.prog 9 #[.int .i64 (room : Int)] w fun e w' => ∃ b a, e = .returned (.tuple #[.pointer (some ⟨a, 0, none⟩), .int .i64 0]) ∧ VRep w' w.heap.size a (newZ room b) ∧ Below w.heap.size w w' := by
  refine (newP_any room w (by omega) (by omega)).mono ?_
  rintro e w' (⟨h1, _⟩ | ⟨r, b, a, h1, h2, h3, h4, h5⟩)
  · omega
  · obtain rfl : room = r := by omega
    exact ⟨b, a, h3, h4, h5⟩
theorem const_app {W : World} {B a : Nat} {V : VZ} (h : VRep W B a V) (s : ByteArray) (L : List Int) (fz : Nat × Nat) (hs : s.size ≤ 1000) (hl : L.length ≤ 1000) (hb : bytes L) :
    Calls Try.prog 22 #[.pointer (some ⟨a, 0, none⟩), .string s, .slice (some ⟨W.heap.size, 0, none⟩) L.length L.length] (W.alloc (.cells (u8s L).toArray 5 fz)) (ActP W B a V (appendS (normZ V) s L)) := by
  have hb1 : Below W.heap.size W (W.alloc (.cells (u8s L).toArray 5 fz)) := bpush (Below.refl _ _) _
  refine (append_any B a V s (some ⟨W.heap.size, 0, none⟩) L.length L.length L _ (h.below hb1) (by omega) (.inr ⟨_, _, rfl, fun j u hu => ?_⟩) rfl (Nat.le_refl _) (fun h => by cases h) hb (by omega) (fun _ b o e hf => ?_)).mono fun e w' h => ActP.pre hb1 h
  · rw [Nat.zero_add, cell_of_row _ _ _ _ _ _ (heap_alloc_new W _)]
    simpa using hu
  · cases e
    exact absurd (h.foot_lt hf).1 (Nat.lt_irrefl _)
/-- What a vault has, by what is known of it up to where it lies. -/
theorem read_norm {w w' : World} {V P : VZ} {s : ByteArray} {e : Ending} (h : ReadPost w V s e w') (hn : normZ V = P) : ∃ D n k, e = .returned (.tuple #[.slice D n k, .bool (lookF P.F s).isSome]) ∧ Row w' D (u8s (lkF P.F s).bs) ∧ n = (lkF P.F s).bs.length ∧ n ≤ 16777216 ∧ n ≤ k ∧ Below w.heap.size w w' := by
  obtain ⟨D, n, k, he, ho, hl, hn1, hb⟩ := h
  have e1 : (lookF P.F s).isSome = (lookF V.F s).isSome := by
    rw [← hn]; show (lookF (V.F.map normF) s).isSome = _
    rw [norm_look, Option.isSome_map]
  have e2 : (lkF P.F s).bs = (lkF V.F s).bs := by
    rw [← hn]; show (lkF (V.F.map normF) s).bs = _
    rw [norm_lk]; rfl
  obtain ⟨A', c', e, hrow, hcc, haa⟩ := own_slice ho
  cases e
  exact ⟨D, n, k, by rw [e1]; exact he, by rw [e2]; exact hrow, by rw [e2]; exact hl, hn1, hcc, hb⟩
theorem free_norm {w : World} {B a : Nat} {V P : VZ} (h : VRep w B a V) (hn : normZ V = P) {x : Int} (hx : x = (P.room : Int) - (usedF P.F : Int)) : Calls Try.prog 29 #[.pointer (some ⟨a, 0, none⟩)] w fun e w' => e = .returned (.int .i64 x) ∧ Below w.heap.size w w' := by
  have := free_any a V w h.core
  have e1 : (V.room : Int) - (usedF V.F : Int) = x := by
    rw [hx, ← hn]; show _ = (V.room : Int) - (usedF (V.F.map normF) : Int); rw [norm_used]
  rw [e1] at this
  exact this
theorem broken_norm {w : World} {B a : Nat} {V P : VZ} (h : VRep w B a V) (hn : normZ V = P) {q : Bool} (hq : q = brkZ P) : Calls Try.prog 26 #[.pointer (some ⟨a, 0, none⟩)] w fun e w' => e = .returned (.bool q) ∧ Below w.heap.size w w' := by
  have e1 : brkZ V = q := by rw [hq, ← hn]; rfl
  refine (broken_any a V w h.core).mono ?_
  rintro e w' ⟨he, rfl⟩
  exact ⟨by rw [he, e1], Below.refl _ _⟩
def strB (xs : List Int) : ByteArray := ⟨(xs.map fun x => UInt8.ofNat x.toNat).toArray⟩
theorem conv_z (D : Option Addr) (c : Nat) (w : World) : Sem.run Try.prog (convert 31 9 (.slice D 0 c)) w = .ok (.string (strOfNums [])) w := by
  cases D with
  | none => exact run_convert_bytes_nil w 31 5 Try.underlying31 Try.underlying5 0 c 9 Try.underlying9
  | some a =>
    have hl : (loadCells a 0).run Try.prog w = .ok (([] : List Int).map (Value.int .u8)).toArray w := by
      have := run_loadCells_list (P := Try.prog) w a [] (fun j v hj => by simp at hj)
      simpa using this
    rw [run_convert_bytes_string w 31 9 5 _ 0 c Try.underlying31 Try.underlying5 Try.underlying9, run_bytesToString w _ 0 c [] hl]
    rfl
theorem conv_bs {w : World} {D : Option Addr} {n c : Nat} {xs : List Int} (h : Row w D (u8s xs)) (hn : n = xs.length) : Sem.run Try.prog (convert 31 9 (.slice D n c)) w = .ok (.string (strOfNums xs)) w := by
  rcases h with h | ⟨b, off, rfl, hc⟩
  · have : xs = [] := by cases xs with
      | nil => rfl
      | cons x xs => simp [u8s] at h
    subst this; subst hn; exact conv_z D c w
  · subst hn
    refine run_convert_bytes_arg (P := Try.prog) w 31 5 Try.underlying31 Try.underlying5 b off xs.length c xs rfl (fun i hi => ?_) 9 Try.underlying9
    rw [List.getD_eq_getElem?_getD, List.getElem?_eq_getElem hi]
    exact hc i _ (by unfold u8s; rw [List.getElem?_map, List.getElem?_eq_getElem hi]; rfl)
def nA : ByteArray := ⟨#[97]⟩
def fA (n s : Nat) (bs : List Int) : FZ := ⟨⟨#[97]⟩, none, n, 0, s, bs⟩
def pA (ar : Bool) (fu : Nat) (f : FZ) : VZ := ⟨20, ar, fu, 0, [f]⟩
theorem nameB_a : nameB ⟨#[97]⟩ = true := by kernel_rfl
theorem nameB_b : nameB ⟨#[98]⟩ = true := by kernel_rfl
theorem append_ok {P : VZ} {s : ByteArray} {bs : List Int} (h1 : nameB s = true) (h2 : brkZ (actZ P) = false) (h3 : ¬ fullZ P s bs.length) : appendS P s bs = (putZ (actZ P) (addF (lkF P.F s) bs), 0) := by
  unfold appendS; rw [if_neg (by rw [h1]; simp), if_neg (by rw [h2]; simp), if_neg h3]
theorem append_full {P : VZ} {s : ByteArray} {bs : List Int} (h1 : nameB s = true) (h2 : brkZ (actZ P) = false) (h3 : fullZ P s bs.length) : appendS P s bs = (actZ P, 32) := by
  unfold appendS; rw [if_neg (by rw [h1]; simp), if_neg (by rw [h2]; simp), if_pos h3]
theorem al1 : appendS (newZ 20 0) ⟨#[97]⟩ [115, 97, 102, 101] = (pA false 0 (fA 4 0 [115, 97, 102, 101]), 0) := by
  rw [append_ok nameB_a rfl (by unfold fullZ; simp [newZ, usedF])]; rfl
theorem al2 : syncS (pA false 0 (fA 4 0 [115, 97, 102, 101])) ⟨#[97]⟩ = (pA false 0 (fA 4 4 [115, 97, 102, 101]), 0) := rfl
theorem al3 : appendS (pA false 0 (fA 4 4 [115, 97, 102, 101])) ⟨#[97]⟩ [109, 111, 114, 101] = (pA false 0 (fA 8 4 [115, 97, 102, 101, 109, 111, 114, 101]), 0) := by
  rw [append_ok nameB_a rfl (by unfold fullZ; simp [pA, fA, usedF])]; rfl
theorem al4 : (crashS 1 (pA false 0 (fA 8 4 [115, 97, 102, 101, 109, 111, 114, 101]))).F = [fA 5 5 [115, 97, 102, 101, 109]] := rfl
theorem al5 : appendS (pA false 0 (fA 8 4 [115, 97, 102, 101, 109, 111, 114, 101])) ⟨#[98]⟩ [0, 0, 0, 0, 0, 0, 0, 0, 0, 0, 0, 0, 0] = (pA false 0 (fA 8 4 [115, 97, 102, 101, 109, 111, 114, 101]), 32) := by
  rw [append_full nameB_b rfl (by unfold fullZ; simp [pA, fA, usedF])]; rfl
theorem al6 : armS (pA false 0 (fA 8 4 [115, 97, 102, 101, 109, 111, 114, 101])) 1 = (pA true 1 (fA 8 4 [115, 97, 102, 101, 109, 111, 114, 101]), 0) := rfl
theorem al7 : deleteS (pA true 1 (fA 8 4 [115, 97, 102, 101, 109, 111, 114, 101])) ⟨#[97]⟩ = (pA true 0 (fA 8 4 [115, 97, 102, 101, 109, 111, 114, 101]), 272) := rfl
set_option maxRecDepth 100000 in
set_option maxHeartbeats 8000000 in
theorem alive_any (w : World) : Calls Try.prog 11 #[] w fun e w' => e = .returned (.bool true) ∧ Below w.heap.size w w' := by
  have hcc := @run_convert_bytes_const Try.prog
  go_enter Try.func11, Try.ntmps11
  go_upto_region 4 with (go_at_call 9; refine (newG_any 20 w (by omega)).mono ?_; rintro e w1 ⟨mb, a, rfl, hv, hb⟩; have HV1 := Lib.hid hv; have HB1 := Lib.hid hb; clear hv hb)
  have hc1 := const_app HV1.out ⟨#[97]⟩ [115, 97, 102, 101] (4, 5) (by decide) (by decide) (by unfold bytes; decide)
  rw [norm_new, al1] at hc1
  have HC1 := Lib.hid (show Calls Try.prog 22 #[.pointer (some ⟨a, 0, none⟩), .string ⟨#[97]⟩, .slice (some ⟨w1.heap.size, 0, none⟩) 4 4] (w1.alloc (.cells #[.int .u8 115, .int .u8 97, .int .u8 102, .int .u8 101] 5 (4, 5))) (ActP w1 w.heap.size a (newZ 20 mb) (pA false 0 (fA 4 0 [115, 97, 102, 101]), 0)) from hc1)
  clear hc1
  go_upto_region 5 with (go_at_call 22; refine HC1.out.mono ?_; rintro e w2 ⟨V2, rfl, hn, hl⟩; have HN2 := Lib.hid hn; have HB2 := Lib.hid (HB1.out.trans (ActP.below HV1.out hl HB1.out.size)); have HV2 := Lib.hid hl.rep; clear hn hl)
  have hs2 := sync_any w.heap.size a V2 ⟨#[97]⟩ w2 HV2.out (by decide)
  rw [HN2.out, al2] at hs2
  have HS2 := Lib.hid hs2
  clear hs2
  go_upto_region 6 with (go_at_call 23; refine HS2.out.mono ?_; rintro e w3 ⟨V3, rfl, hn, hl⟩; have HN3 := Lib.hid hn; have HB3 := Lib.hid (HB2.out.trans (ActP.below HV2.out hl HB2.out.size)); have HV3 := Lib.hid hl.rep; clear hn hl)
  have hc3 := const_app HV3.out ⟨#[97]⟩ [109, 111, 114, 101] (4, 5) (by decide) (by decide) (by unfold bytes; decide)
  rw [HN3.out, al3] at hc3
  have HC3 := Lib.hid (show Calls Try.prog 22 #[.pointer (some ⟨a, 0, none⟩), .string ⟨#[97]⟩, .slice (some ⟨w3.heap.size, 0, none⟩) 4 4] (w3.alloc (.cells #[.int .u8 109, .int .u8 111, .int .u8 114, .int .u8 101] 5 (4, 5))) (ActP w3 w.heap.size a V3 (pA false 0 (fA 8 4 [115, 97, 102, 101, 109, 111, 114, 101]), 0)) from hc3)
  clear hc3
  go_upto_region 7 with (go_at_call 22; refine HC3.out.mono ?_; rintro e w4 ⟨V4, rfl, hn, hl⟩; have HN4 := Lib.hid hn; have HB4 := Lib.hid (HB3.out.trans (ActP.below HV3.out hl HB3.out.size)); have HV4 := Lib.hid hl.rep; clear hn hl)
  have HCR := Lib.hid (crash_any w.heap.size a V4 1 w4 HV4.out (by omega) (by omega))
  go_upto_region 8 with (go_at_call 15; refine HCR.out.mono ?_; rintro e w5 ⟨x, Vx, rfl, hn, hvx, hb⟩; have HNX := Lib.hid hn; have HVX := Lib.hid hvx; have HV5 := Lib.hid (HV4.out.below hb); have HB5 := Lib.hid (HB4.out.trans (hb.mono HB4.out.size)); clear hn hvx hb)
  have HRD := Lib.hid (read_any w4.heap.size x Vx ⟨#[97]⟩ w5 HVX.out (by decide))
  have hxf : Vx.F.map normF = [fA 5 5 [115, 97, 102, 101, 109]] := by
    have h := congrArg VZ.F HNX.out
    rw [HN4.out, al4] at h
    exact h
  have HXF := Lib.hid (show normZ Vx = ⟨Vx.room, Vx.armed, Vx.fuse, 0, [fA 5 5 [115, 97, 102, 101, 109]]⟩ by unfold normZ; rw [hxf])
  go_upto_region 9 with (go_at_call 20; refine HRD.out.mono ?_; rintro e w6 hq; obtain ⟨D, n, k, rfl, hrow, hn, hn1, hnk, hb⟩ := read_norm hq HXF.out; have HV6 := Lib.hid (HV5.out.below hb); have HB6 := Lib.hid (HB5.out.trans (hb.mono HB5.out.size)); have HROW := Lib.hid (show Row w6 D (u8s [115, 97, 102, 101, 109]) from hrow); have HN := Lib.hid (show n = 5 from hn); clear hq hrow hn hn1 hnk hb)
  obtain rfl := HN.out
  have hconv : Sem.run Try.prog (convert 31 9 (.slice D 5 k)) w6 = .ok (.string ⟨#[115, 97, 102, 101, 109]⟩) w6 := conv_bs HROW.out rfl
  have hsm : Option.isSome (lookF [fA 5 5 [115, 97, 102, 101, 109]] ⟨#[97]⟩) = true := rfl
  have hfr := Lib.hid (free_norm HV6.out HN4.out (x := 12) rfl)
  clear hxf
  have hmc : madeCells #[Value.int .u8 0] 13 = #[.int .u8 0, .int .u8 0, .int .u8 0, .int .u8 0, .int .u8 0, .int .u8 0, .int .u8 0, .int .u8 0, .int .u8 0, .int .u8 0, .int .u8 0, .int .u8 0, .int .u8 0] := by kernel_rfl
  have hmk : ∀ V, Sem.run Try.prog (Instr.makeSlice 31 (.int .i64 13) (.int .i64 13)) V = .ok (.slice (some ⟨V.heap.size, 0, none⟩) 13 13) (V.alloc (.cells #[.int .u8 0, .int .u8 0, .int .u8 0, .int .u8 0, .int .u8 0, .int .u8 0, .int .u8 0, .int .u8 0, .int .u8 0, .int .u8 0, .int .u8 0, .int .u8 0, .int .u8 0] 5)) := fun V => by
    have h := run_make_row' (P := Try.prog) 31 5 (.int .u8 0) 1 Try.underlying31 info5 rfl .i64 .i64 13 (by omega) (by omega) V
    rw [hmc] at h
    exact h
  clear hmc
  have HAP := Lib.hid (show ∀ W, VRep W w.heap.size a V4 → Calls Try.prog 22 #[.pointer (some ⟨a, 0, none⟩), .string ⟨#[98]⟩, .slice (some ⟨W.heap.size, 0, none⟩) 13 13] (W.alloc (.cells #[.int .u8 0, .int .u8 0, .int .u8 0, .int .u8 0, .int .u8 0, .int .u8 0, .int .u8 0, .int .u8 0, .int .u8 0, .int .u8 0, .int .u8 0, .int .u8 0, .int .u8 0] 5)) (ActP W w.heap.size a V4 (pA false 0 (fA 8 4 [115, 97, 102, 101, 109, 111, 114, 101]), 32)) from fun W h => by
    have hc := const_app h ⟨#[98]⟩ [0, 0, 0, 0, 0, 0, 0, 0, 0, 0, 0, 0, 0] (0, 0) (by decide) (by decide) (by unfold bytes; decide)
    rw [HN4.out, al5] at hc
    exact hc)
  have HAR := Lib.hid (show ∀ W V, VRep W w.heap.size a V → normZ V = pA false 0 (fA 8 4 [115, 97, 102, 101, 109, 111, 114, 101]) → Calls Try.prog 25 #[.pointer (some ⟨a, 0, none⟩), .int .i64 1] W (ActP W w.heap.size a V (pA true 1 (fA 8 4 [115, 97, 102, 101, 109, 111, 114, 101]), 0)) from fun W V h hn => by
    have hc := armP_any w.heap.size a V 1 W h (by omega)
    rw [hn, al6] at hc
    exact hc)
  have HDE := Lib.hid (show ∀ W V, VRep W w.heap.size a V → normZ V = pA true 1 (fA 8 4 [115, 97, 102, 101, 109, 111, 114, 101]) → Calls Try.prog 30 #[.pointer (some ⟨a, 0, none⟩), .string ⟨#[97]⟩] W (ActP W w.heap.size a V (pA true 0 (fA 8 4 [115, 97, 102, 101, 109, 111, 114, 101]), 272)) from fun W V h hn => by
    have hc := delete_any w.heap.size a V ⟨#[97]⟩ W h (by decide)
    rw [hn, al7] at hc
    exact hc)
  go_wp2_with (first
    | (go_at_call 29; refine hfr.out.mono ?_; rintro e w7 ⟨rfl, hb⟩; have HV7 := Lib.hid (HV6.out.below hb); have HB7 := Lib.hid (HB6.out.trans (hb.mono HB6.out.size)); clear hb)
    | (go_at_call 22; refine (HAP.out w7 HV7.out).mono ?_; rintro e w8 ⟨V8, rfl, hn, hl⟩; have HN8 := Lib.hid hn; have HB8 := Lib.hid (HB7.out.trans (ActP.below HV7.out hl HB7.out.size)); have HV8 := Lib.hid hl.rep; clear hn hl)
    | (go_at_call 25; refine (HAR.out w8 V8 HV8.out HN8.out).mono ?_; rintro e w9 ⟨V9, rfl, hn, hl⟩; have HN9 := Lib.hid hn; have HB9 := Lib.hid (HB8.out.trans (ActP.below HV8.out hl HB8.out.size)); have HV9 := Lib.hid hl.rep; clear hn hl)
    | (go_at_call 30; refine (HDE.out w9 V9 HV9.out HN9.out).mono ?_; rintro e w10 ⟨V10, rfl, hn, hl⟩; have HN10 := Lib.hid hn; have HB10 := Lib.hid (HB9.out.trans (ActP.below HV9.out hl HB9.out.size)); have HV10 := Lib.hid hl.rep; clear hn hl)
    | (go_at_call 26; refine (broken_norm HV10.out HN10.out (q := true) rfl).mono ?_; rintro e w11 ⟨rfl, hb⟩; have HB11 := Lib.hid (HB10.out.trans (hb.mono HB10.out.size)); clear hb))
  go_ret
  exact ⟨rfl, HB11.out⟩
end Go.Proofs.Ytaahomohhagcoaa
