/- Safe stays. -/
import Derived.Test.YtaahomohhagcoaaQ
import Derived.Deep.RegionHeld3
import Derived.Lib.MinMax
namespace Go.Proofs.Ytaahomohhagcoaa
open Go.RowKit Go.Maps Go.Shelf Go.Lib
set_option linter.unusedSimpArgs false
set_option linter.unusedVariables false
def nX : ByteArray := ⟨#[120]⟩
def nY : ByteArray := ⟨#[121]⟩
def nZ : ByteArray := ⟨#[122]⟩
def big (F : List FZ) : VZ := ⟨16777216, false, 0, 0, F⟩
def fz (s : ByteArray) (n k : Nat) (bs : List Int) : FZ := ⟨s, none, n, 0, k, bs⟩
theorem used_big (F : List FZ) : (big F).room - usedF (big F).F = 16777216 - usedF F := rfl
theorem name_x : nameB ⟨#[120]⟩ = true := by kernel_rfl
theorem name_y : nameB ⟨#[121]⟩ = true := by kernel_rfl
theorem name_z : nameB ⟨#[122]⟩ = true := by kernel_rfl
theorem sf1 (bs : List Int) (h : bs.length ≤ 200) : appendS (newZ 16777216 0) ⟨#[120]⟩ bs = (big [fz ⟨#[120]⟩ bs.length 0 bs], 0) := by
  rw [append_ok name_x rfl (by unfold fullZ; simp [newZ, usedF]; omega)]
  simp [putZ, addF, lkF, lookF, putF, dropF, insF, newZ, actZ, big, fz]
theorem sf2 (bs : List Int) : syncS (big [fz ⟨#[120]⟩ bs.length 0 bs]) ⟨#[120]⟩ = (big [fz ⟨#[120]⟩ bs.length bs.length bs], 0) := rfl
theorem sf3 (bs cs : List Int) (h : bs.length ≤ 200) (h2 : cs.length ≤ 200) : appendS (big [fz ⟨#[120]⟩ bs.length bs.length bs]) ⟨#[120]⟩ cs = (big [fz ⟨#[120]⟩ (bs.length + cs.length) bs.length (bs ++ cs)], 0) := by
  rw [append_ok name_x rfl (by unfold fullZ; simp [big, fz, usedF]; omega)]; rfl
theorem sf4 (n k : Nat) (bs : List Int) : renameS (big [fz ⟨#[120]⟩ n k bs]) ⟨#[120]⟩ ⟨#[121]⟩ = (big [fz ⟨#[121]⟩ n k bs], 0) := by
  unfold renameS
  rw [if_neg (by rw [name_y]; simp)]; rfl
theorem sf5 (n k : Nat) (bs cs : List Int) (h : n ≤ 400) (h2 : cs.length ≤ 200) : appendS (big [fz ⟨#[121]⟩ n k bs]) ⟨#[122]⟩ cs = (big [fz ⟨#[121]⟩ n k bs, fz ⟨#[122]⟩ cs.length 0 cs], 0) := by
  rw [append_ok name_z rfl (by unfold fullZ; simp [big, fz, usedF]; omega)]
  have e : addF (lkF (big [fz ⟨#[121]⟩ n k bs]).F ⟨#[122]⟩) cs = fz ⟨#[122]⟩ cs.length 0 cs := by
    show (⟨⟨#[122]⟩, none, 0 + cs.length, 0, 0, [] ++ cs⟩ : FZ) = _
    rw [Nat.zero_add]; rfl
  rw [e]; rfl
theorem sf6 (t : Int) (bs cs : List Int) (m : Nat) (hm : m = min t.toNat cs.length) : (crashS t (big [fz ⟨#[121]⟩ (bs.length + cs.length) bs.length (bs ++ cs), fz ⟨#[122]⟩ cs.length 0 cs])).F = [fz ⟨#[121]⟩ (bs.length + m) (bs.length + m) (bs ++ cs.take m), fz ⟨#[122]⟩ m m (cs.take m)] := by
  have k1 : kC t (bs.length + cs.length) bs.length = (bs.length + m, bs.length + m) := by
    unfold kC kOf; rw [if_pos (by omega), hm, Nat.add_sub_cancel_left]
  have k2 : kC t cs.length 0 = (m, m) := by
    unfold kC kOf; rw [if_pos (by omega), hm, Nat.sub_zero, Nat.zero_add]
  show [chF (kC t) _, chF (kC t) _] = _
  unfold chF
  show [(⟨_, none, (kC t (bs.length + cs.length) bs.length).1, 0, (kC t (bs.length + cs.length) bs.length).2, (bs ++ cs).take (kC t (bs.length + cs.length) bs.length).1⟩ : FZ), ⟨_, none, (kC t cs.length 0).1, 0, (kC t cs.length 0).2, cs.take (kC t cs.length 0).1⟩] = _
  rw [k1, k2]
  simp only [List.take_length_add_append]; rfl
theorem sf7 (n m : Nat) (bs cs : List Int) (h1 : n = bs.length) (h2 : m = cs.length) : (crashS 0 ⟨16777216, false, 0, 0, [fz ⟨#[121]⟩ n n bs, fz ⟨#[122]⟩ m m cs]⟩).F = [fz ⟨#[121]⟩ n n bs, fz ⟨#[122]⟩ m m cs] := by
  have k1 : ∀ n, kC 0 n n = (n, n) := fun n => by unfold kC kOf; rw [if_pos (Nat.le_refl _)]; simp
  show [(⟨_, none, (kC 0 n n).1, 0, (kC 0 n n).2, bs.take (kC 0 n n).1⟩ : FZ), ⟨_, none, (kC 0 m m).1, 0, (kC 0 m m).2, cs.take (kC 0 m m).1⟩] = _
  rw [k1, k1, h1, h2]
  simp only [List.take_length]; rfl
theorem strOf_app (a b : List Int) : strOfNums (a ++ b) = strOfNums a ++ strOfNums b := by
  unfold strOfNums
  rw [List.map_append]
  apply ByteArray.ext
  simp
theorem app_arg {W : World} {B a : Nat} {V : VZ} {A : Option Addr} {n c : Nat} {bs : List Int} (h : VRep W B a V) (s : ByteArray) (hs : s.size ≤ 1000) (hg : ArgB W B A n c bs) : Calls Try.prog 22 #[.pointer (some ⟨a, 0, none⟩), .string s, .slice A n c] W (ActP W B a V (appendS (normZ V) s bs)) :=
  append_any B a V s A n c bs W h (by omega) hg.row hg.len hg.cap hg.nil hg.byt hg.big (fun hne b o e hf => by have h1 := hg.low hne b o e; have h2 := (h.foot_lt hf).2; omega)
theorem row_take {w : World} {A : Option Addr} {bs : List Int} (h : Row w A (u8s bs)) (m : Nat) : Row w A (u8s (bs.take m)) := by
  have h := h.takeV m
  rw [show (u8s bs).take m = u8s (bs.take m) from (by unfold u8s; rw [List.map_take])] at h
  exact h
set_option maxRecDepth 100000 in
set_option maxHeartbeats 16000000 in
theorem safe_walk (A0 A1 : Option Addr) (n0 c0 n1 c1 : Nat) (b0 b1 : List Int) (t : Int) (w : World) (g0 : ArgB w w.heap.size A0 n0 c0 b0) (g1 : ArgB w w.heap.size A1 n1 c1 b1) (ht1 : -9223372036854775808 ≤ t) (ht2 : t ≤ 9223372036854775807) :
    Calls Try.prog 4 #[.slice A0 n0 c0, .slice A1 n1 c1, .int .i64 t] w fun e w' => e = .returned (.bool true) ∧ Below w.heap.size w w' := by
  have G0 := Lib.hid g0
  have G1 := Lib.hid g1
  clear g0 g1
  by_cases h0 : n0 ≤ 200
  rotate_left
  · have k0 : (200 : Int) < (n0 : Int) := by omega
    clear h0
    go_enter Try.func4, Try.ntmps4
    go_wp2_with (go_at_call 9; refine (newG_any 16777216 w (by omega)).mono ?_; rintro e w1 ⟨mb, a, rfl, hv, hb⟩; have HB1 := Lib.hid hb; clear hv hb)
    go_ret
    exact ⟨rfl, HB1.out⟩
  by_cases h1 : n1 ≤ 200
  rotate_left
  · have k0 : ¬ (200 : Int) < (n0 : Int) := by omega
    have k1 : (200 : Int) < (n1 : Int) := by omega
    clear h0 h1
    go_enter Try.func4, Try.ntmps4
    go_wp2_with (go_at_call 9; refine (newG_any 16777216 w (by omega)).mono ?_; rintro e w1 ⟨mb, a, rfl, hv, hb⟩; have HB1 := Lib.hid hb; clear hv hb)
    go_ret
    exact ⟨rfl, HB1.out⟩
  have HL0 := Lib.hid (show b0.length ≤ 200 by have := G0.out.len; omega)
  have HL1 := Lib.hid (show b1.length ≤ 200 by have := G1.out.len; omega)
  have k0 : ¬ (200 : Int) < (n0 : Int) := by omega
  have k1 : ¬ (200 : Int) < (n1 : Int) := by omega
  have HN0 := Lib.hid h0
  have HN1 := Lib.hid h1
  clear h0 h1
  obtain ⟨m, hm⟩ : ∃ m, m = min t.toNat b1.length := ⟨_, rfl⟩
  have HM := Lib.hid hm
  clear hm
  go_enter Try.func4, Try.ntmps4
  go_upto_region 4 with (go_at_call 9; refine (newG_any 16777216 w (by omega)).mono ?_; rintro e w1 ⟨mb, a, rfl, hv, hb⟩; have HV1 := Lib.hid hv; have HB1 := Lib.hid hb; clear hv hb)
  have hc := app_arg HV1.out ⟨#[120]⟩ (by decide) (G0.out.keep HB1.out)
  rw [norm_new, sf1 b0 HL0.out] at hc
  have HC1 := Lib.hid hc
  clear hc
  go_upto_region 5 with (go_at_call 22; refine HC1.out.mono ?_; rintro e w2 ⟨V2, rfl, hn, hl⟩; have HN2 := Lib.hid hn; have HB2 := Lib.hid (HB1.out.trans (ActP.below HV1.out hl HB1.out.size)); have HV2 := Lib.hid hl.rep; clear hn hl)
  have hc := sync_any w.heap.size a V2 ⟨#[120]⟩ w2 HV2.out (by decide)
  rw [HN2.out, sf2] at hc
  have HC2 := Lib.hid hc
  clear hc
  go_upto_region 6 with (go_at_call 23; refine HC2.out.mono ?_; rintro e w3 ⟨V3, rfl, hn, hl⟩; have HN3 := Lib.hid hn; have HB3 := Lib.hid (HB2.out.trans (ActP.below HV2.out hl HB2.out.size)); have HV3 := Lib.hid hl.rep; clear hn hl)
  have hc := app_arg HV3.out ⟨#[120]⟩ (by decide) (G1.out.keep HB3.out)
  rw [HN3.out, sf3 b0 b1 HL0.out HL1.out] at hc
  have HC3 := Lib.hid hc
  clear hc
  go_upto_region 7 with (go_at_call 22; refine HC3.out.mono ?_; rintro e w4 ⟨V4, rfl, hn, hl⟩; have HN4 := Lib.hid hn; have HB4 := Lib.hid (HB3.out.trans (ActP.below HV3.out hl HB3.out.size)); have HV4 := Lib.hid hl.rep; clear hn hl)
  have hc := rename_any w.heap.size a V4 ⟨#[120]⟩ ⟨#[121]⟩ w4 HV4.out (by decide) (by decide)
  rw [HN4.out, sf4] at hc
  have HC4 := Lib.hid hc
  clear hc
  go_upto_region 8 with (go_at_call 24; refine HC4.out.mono ?_; rintro e w5 ⟨V5, rfl, hn, hl⟩; have HN5 := Lib.hid hn; have HB5 := Lib.hid (HB4.out.trans (ActP.below HV4.out hl HB4.out.size)); have HV5 := Lib.hid hl.rep; clear hn hl)
  have hc := app_arg HV5.out ⟨#[122]⟩ (by decide) (G1.out.keep HB5.out)
  rw [HN5.out, sf5 _ _ _ _ (by have := HL0.out; have := HL1.out; omega) HL1.out] at hc
  have HC5 := Lib.hid hc
  clear hc
  go_upto_region 9 with (go_at_call 22; refine HC5.out.mono ?_; rintro e w6 ⟨V6, rfl, hn, hl⟩; have HN6 := Lib.hid hn; have HB6 := Lib.hid (HB5.out.trans (ActP.below HV5.out hl HB5.out.size)); have HV6 := Lib.hid hl.rep; clear hn hl)
  have HCR := Lib.hid (crash_any w.heap.size a V6 t w6 HV6.out ht1 ht2)
  go_upto_region 10 with (go_at_call 15; refine HCR.out.mono ?_; rintro e w7 ⟨x, Vx, rfl, hn, hvx, hb⟩; have HNX := Lib.hid hn; have HVX := Lib.hid hvx; have HL7 := Lib.hid hb; clear hn hvx hb)
  have hxf : Vx.F.map normF = [fz ⟨#[121]⟩ (b0.length + m) (b0.length + m) (b0 ++ b1.take m), fz ⟨#[122]⟩ m m (b1.take m)] := by
    have h := congrArg VZ.F HNX.out
    rw [HN6.out, sf6 t b0 b1 m HM.out] at h
    exact h
  have hxr : normZ Vx = big [fz ⟨#[121]⟩ (b0.length + m) (b0.length + m) (b0 ++ b1.take m), fz ⟨#[122]⟩ m m (b1.take m)] := by
    have h := HNX.out
    have e1 := congrArg VZ.room h
    have e2 := congrArg VZ.armed h
    have e3 := congrArg VZ.fuse h
    rw [HN6.out] at e1 e2 e3
    unfold normZ big
    rw [hxf, show Vx.room = 16777216 from e1, show Vx.armed = false from e2, show Vx.fuse = 0 from e3]
  have HXR := Lib.hid hxr
  clear hxf hxr
  have HR1 := Lib.hid (read_any w6.heap.size x Vx ⟨#[121]⟩ w7 HVX.out (by decide))
  go_upto_region 11 with (go_at_call 20; refine HR1.out.mono ?_; rintro e w8 hq; obtain ⟨D1, d1, e1, rfl, hrow, hn, hn1, hnk, hb⟩ := read_norm hq HXR.out; have HL8 := Lib.hid hb; have HD1 := Lib.hid (show Row w8 D1 (u8s (b0 ++ b1.take m)) from hrow); have HE1 := Lib.hid (show d1 = (b0 ++ b1.take m).length from hn); clear hq hrow hn hn1 hnk hb)
  have HVX8 := Lib.hid (HVX.out.below HL8.out)
  have HR2 := Lib.hid (read_any w6.heap.size x Vx ⟨#[122]⟩ w8 HVX8.out (by decide))
  go_upto_region 12 with (go_at_call 20; refine HR2.out.mono ?_; rintro e w9 hq; obtain ⟨D2, d2, e2, rfl, hrow, hn, hn1, hnk, hb⟩ := read_norm hq HXR.out; have HL9 := Lib.hid hb; have HD2 := Lib.hid (show Row w9 D2 (u8s (b1.take m)) from hrow); have HE2 := Lib.hid (show d2 = (b1.take m).length from hn); clear hq hrow hn hn1 hnk hb)
  have HVX9 := Lib.hid (HVX8.out.below HL9.out)
  have HR3 := Lib.hid (read_any w6.heap.size x Vx ⟨#[120]⟩ w9 HVX9.out (by decide))
  go_upto_region 13 with (go_at_call 20; refine HR3.out.mono ?_; rintro e w10 hq; obtain ⟨D3, d3, e3, rfl, hrow, hn, hn1, hnk, hb⟩ := read_norm hq HXR.out; have HL10 := Lib.hid hb; clear hq hrow hn hn1 hnk hb)
  have HVX10 := Lib.hid (HVX9.out.below HL10.out)
  have HR4 := Lib.hid (crash_any w6.heap.size x Vx 0 w10 HVX10.out (by omega) (by omega))
  have hmm : min (max t 0) (n1 : Int) = (m : Int) := by have := HM.out; have := G1.out.len; omega
  go_upto_region 15 with (go_at_call 15; refine HR4.out.mono ?_; rintro e w11 ⟨y, Vy, rfl, hn, hvx, hb⟩; have HNY := Lib.hid hn; have HVY := Lib.hid hvx; have HL11 := Lib.hid hb; clear hn hvx hb)
  have hyr : normZ Vy = ⟨Vy.room, Vy.armed, Vy.fuse, 0, [fz ⟨#[121]⟩ (b0.length + m) (b0.length + m) (b0 ++ b1.take m), fz ⟨#[122]⟩ m m (b1.take m)]⟩ := by
    have h := congrArg VZ.F HNY.out
    have hml : m ≤ b1.length := by have := HM.out; omega
    rw [HXR.out] at h
    have h2 := h.trans (sf7 (b0.length + m) m (b0 ++ b1.take m) (b1.take m) (by rw [List.length_append, List.length_take]; omega) (by rw [List.length_take]; omega))
    unfold normZ
    rw [show Vy.F.map normF = _ from h2]
  have HYR := Lib.hid hyr
  clear hyr
  have HR5 := Lib.hid (read_any w10.heap.size y Vy ⟨#[121]⟩ w11 HVY.out (by decide))
  go_upto_region 16 with (go_at_call 20; refine HR5.out.mono ?_; rintro e w12 hq; obtain ⟨D4, d4, e4, rfl, hrow, hn, hn1, hnk, hb⟩ := read_norm hq HYR.out; have HL12 := Lib.hid hb; have HD4 := Lib.hid (show Row w12 D4 (u8s (b0 ++ b1.take m)) from hrow); have HE4 := Lib.hid (show d4 = (b0 ++ b1.take m).length from hn); clear hq hrow hn hn1 hnk hb)
  have HB612 := Lib.hid (bthen HL7.out (bthen HL8.out (bthen HL9.out (bthen HL10.out (bthen HL11.out HL12.out)))))
  have HV12 := Lib.hid (HV6.out.below HB612.out)
  have HR6 := Lib.hid (read_any w.heap.size a V6 ⟨#[121]⟩ w12 HV12.out (by decide))
  go_upto_region 17 with (go_at_call 20; refine HR6.out.mono ?_; rintro e w13 hq; obtain ⟨D5, d5, e5, rfl, hrow, hn, hn1, hnk, hb⟩ := read_norm hq HN6.out; have HL13 := Lib.hid hb; have HD5 := Lib.hid (show Row w13 D5 (u8s (b0 ++ b1)) from hrow); have HE5 := Lib.hid (show d5 = (b0 ++ b1).length from hn); clear hq hrow hn hn1 hnk hb)
  have HB13 := Lib.hid (HB6.out.trans ((bthen HB612.out HL13.out).mono HB6.out.size))
  obtain ⟨tk, htk⟩ : ∃ tk, tk = b1.take m := ⟨_, rfl⟩
  obtain ⟨qb, hqb⟩ : ∃ q, q = strOfNums (b0 ++ tk) := ⟨_, rfl⟩
  obtain ⟨q0, hq0⟩ : ∃ q, q = strOfNums b0 := ⟨_, rfl⟩
  obtain ⟨qt, hqt⟩ : ∃ q, q = strOfNums tk := ⟨_, rfl⟩
  obtain ⟨q1, hq1⟩ : ∃ q, q = strOfNums b1 := ⟨_, rfl⟩
  obtain ⟨qu, hqu⟩ : ∃ q, q = strOfNums (b0 ++ b1) := ⟨_, rfl⟩
  have HADB := Lib.hid (show q0 ++ qt = qb by rw [hqb, hq0, hqt, strOf_app])
  have HADU := Lib.hid (show q0 ++ q1 = qu by rw [hqu, hq0, hq1, strOf_app])
  have HSZB := Lib.hid (show q0.size + qt.size ≤ 9223372036854775807 by rw [hq0, hqt, strOfNums_size, strOfNums_size, htk, List.length_take]; have := HL0.out; have := HL1.out; omega)
  have HSZU := Lib.hid (show q0.size + q1.size ≤ 9223372036854775807 by rw [hq0, hq1, strOfNums_size, strOfNums_size]; have := HL0.out; have := HL1.out; omega)
  have HCB := Lib.hid (show ∀ w', Below w13.heap.size w13 w' → Sem.run Try.prog (convert 31 9 (.slice D1 d1 e1)) w' = .ok (.string qb) w' from fun w' hb => by
    rw [hqb]; exact conv_bs ((by rw [htk]; exact HD1.out : Row w8 D1 (u8s (b0 ++ tk))).keep (Nat.le_refl _) (bthen HL9.out (bthen HL10.out (bthen HL11.out (bthen HL12.out (bthen HL13.out hb)))))) (by rw [htk]; exact HE1.out))
  have HCZ := Lib.hid (show ∀ w', Below w13.heap.size w13 w' → Sem.run Try.prog (convert 31 9 (.slice D2 d2 e2)) w' = .ok (.string qt) w' from fun w' hb => by
    rw [hqt]; exact conv_bs ((by rw [htk]; exact HD2.out : Row w9 D2 (u8s tk)).keep (Nat.le_refl _) (bthen HL10.out (bthen HL11.out (bthen HL12.out (bthen HL13.out hb))))) (by rw [htk]; exact HE2.out))
  have HCW := Lib.hid (show ∀ w', Below w13.heap.size w13 w' → Sem.run Try.prog (convert 31 9 (.slice D4 d4 e4)) w' = .ok (.string qb) w' from fun w' hb => by
    rw [hqb]; exact conv_bs ((by rw [htk]; exact HD4.out : Row w12 D4 (u8s (b0 ++ tk))).keep (Nat.le_refl _) (bthen HL13.out hb)) (by rw [htk]; exact HE4.out))
  have HCU := Lib.hid (show ∀ w', Below w13.heap.size w13 w' → Sem.run Try.prog (convert 31 9 (.slice D5 d5 e5)) w' = .ok (.string qu) w' from fun w' hb => by
    rw [hqu]; exact conv_bs (HD5.out.keep (Nat.le_refl _) hb) HE5.out)
  have HC0 := Lib.hid (show ∀ w', Below w13.heap.size w13 w' → Sem.run Try.prog (convert 31 9 (.slice A0 n0 c0)) w' = .ok (.string q0) w' from fun w' hb => by
    rw [hq0]; exact conv_bs (G0.out.keep (HB13.out.trans (hb.mono HB13.out.size))).row G0.out.len)
  have HC1x := Lib.hid (show ∀ w', Below w13.heap.size w13 w' → Sem.run Try.prog (convert 31 9 (.slice A1 n1 c1)) w' = .ok (.string q1) w' from fun w' hb => by
    rw [hq1]; exact conv_bs (G1.out.keep (HB13.out.trans (hb.mono HB13.out.size))).row G1.out.len)
  have HCT := Lib.hid (show ∀ w', Below w13.heap.size w13 w' → Sem.run Try.prog (convert 31 9 (.slice A1 m c1)) w' = .ok (.string qt) w' from fun w' hb => by
    rw [hqt, htk]; exact conv_bs (row_take (G1.out.keep (HB13.out.trans (hb.mono HB13.out.size))).row m) (by rw [List.length_take]; have := HM.out; omega))
  have hm1 : m ≤ n1 := by have := HM.out; have := G1.out.len; omega
  have hm2 : n1 ≤ c1 := G1.out.cap
  have HMC := Lib.hid (show m ≤ c1 by omega)
  have hs1 : Option.isSome (lookF (big [fz ⟨#[121]⟩ (b0.length + m) (b0.length + m) (b0 ++ b1.take m), fz ⟨#[122]⟩ m m (b1.take m)]).F ⟨#[121]⟩) = true := rfl
  have hs2 : Option.isSome (lookF (big [fz ⟨#[121]⟩ (b0.length + m) (b0.length + m) (b0 ++ b1.take m), fz ⟨#[122]⟩ m m (b1.take m)]).F ⟨#[120]⟩) = false := rfl
  rw [hs1, hs2]
  clear hs1 hs2 htk hqb hq0 hqt hq1 hqu hmm k0 k1
  obtain ⟨b5, hb5⟩ : ∃ b, b = Option.isSome (lookF (big [fz ⟨#[121]⟩ (b0.length + b1.length) b0.length (b0 ++ b1), fz ⟨#[122]⟩ b1.length 0 b1]).F ⟨#[121]⟩) := ⟨_, rfl⟩
  refine wp_region_held_drew (S := fun w' => Below w13.heap.size w13 w') (by kernel_rfl) (below_drewN (Below.refl _ _) 1) ?_
  intro hHeld
  refine wpAnyH_ready (rs := [0]) (by kernel_rfl) (by simp) ?_
  refine AllReadyH.cons rfl (fun K hK => ?_) AllReadyH.nil
  go_simp
  (go_at_call 11; refine (alive_any _).mono ?_; rintro e w14 ⟨rfl, hb⟩)
  refine hK.out _ _ (bthen hHeld hb) (fun hHeld => ?_)
  clear hK K
  (try simp only [Act.put, List.setIfInBounds_toArray, List.set_cons_zero, List.set_cons_succ])
  refine take_want (i := 1) (v := ?v1k0) rfl (by kernel_rfl) (by kernel_rfl) (by kernel_rfl) (fun _ _ _ h => h) (by rfl) ?y1k0 (by assumption) ?r1k0
  case y1k0 => (intro w hSw; go_simp; all_goals with_reducible rfl)
  (try simp only [Act.put, List.setIfInBounds_toArray, List.set_cons_zero, List.set_cons_succ])
  refine take_want (i := 2) (v := ?v2k0) rfl (by kernel_rfl) (by kernel_rfl) (by kernel_rfl) (fun _ _ _ h => h) (by rfl) ?y2k0 (by assumption) ?r2k0
  case y2k0 => (intro w hSw; go_simp; all_goals with_reducible rfl)
  (try simp only [Act.put, List.setIfInBounds_toArray, List.set_cons_zero, List.set_cons_succ])
  refine take_want (i := 3) (v := .bool true) rfl (by kernel_rfl) (by kernel_rfl) (by kernel_rfl) (fun _ _ _ h => h) (by rfl) ?y3k0 (by assumption) ?r3k0
  case y3k0 => (intro w hSw; go_simp; all_goals first | rfl | simp)
  (try simp only [Act.put, List.setIfInBounds_toArray, List.set_cons_zero, List.set_cons_succ])
  refine take_want (i := 4) (v := ?v4k0) rfl (by kernel_rfl) (by kernel_rfl) (by kernel_rfl) (fun _ _ _ h => h) (by rfl) ?y4k0 (by assumption) ?r4k0
  case y4k0 => (intro w hSw; go_simp; all_goals with_reducible rfl)
  (try simp only [Act.put, List.setIfInBounds_toArray, List.set_cons_zero, List.set_cons_succ])
  refine take_want (i := 5) (v := ?v5k0) rfl (by kernel_rfl) (by kernel_rfl) (by kernel_rfl) (fun _ _ _ h => h) (by rfl) ?y5k0 (by assumption) ?r5k0
  case y5k0 => (intro w hSw; go_simp; all_goals with_reducible rfl)
  (try simp only [Act.put, List.setIfInBounds_toArray, List.set_cons_zero, List.set_cons_succ])
  refine take_want (i := 6) (v := .bool true) rfl (by kernel_rfl) (by kernel_rfl) (by kernel_rfl) (fun _ _ _ h => h) (by rfl) ?y6k0 (by assumption) ?r6k0
  case y6k0 => (intro w hSw; go_simp; all_goals first | rfl | simp)
  (try simp only [Act.put, List.setIfInBounds_toArray, List.set_cons_zero, List.set_cons_succ])
  refine take_want (i := 7) (v := .bool true) rfl (by kernel_rfl) (by kernel_rfl) (by kernel_rfl) (fun _ _ _ h => h) (by rfl) ?y7k0 (by assumption) ?r7k0
  case y7k0 => (intro w hSw; go_simp; all_goals first | rfl | simp)
  (try simp only [Act.put, List.setIfInBounds_toArray, List.set_cons_zero, List.set_cons_succ])
  refine take_want (i := 8) (v := ?v8k0) rfl (by kernel_rfl) (by kernel_rfl) (by kernel_rfl) (fun _ _ _ h => h) (by rfl) ?y8k0 (by assumption) ?r8k0
  case y8k0 => (intro w hSw; go_simp; all_goals with_reducible rfl)
  (try simp only [Act.put, List.setIfInBounds_toArray, List.set_cons_zero, List.set_cons_succ])
  refine take_want (i := 9) (v := ?v9k0) rfl (by kernel_rfl) (by kernel_rfl) (by kernel_rfl) (fun _ _ _ h => h) (by rfl) ?y9k0 (by assumption) ?r9k0
  case y9k0 => (intro w hSw; go_simp; all_goals with_reducible rfl)
  (try simp only [Act.put, List.setIfInBounds_toArray, List.set_cons_zero, List.set_cons_succ])
  refine take_want (i := 10) (v := .string qb) rfl (by kernel_rfl) (by kernel_rfl) (by kernel_rfl) (fun _ _ _ h => h) (by rfl) ?y10k0 (by assumption) ?r10k0
  case y10k0 => (intro w hSw; have cv := HCB.out w hSw; go_simp; all_goals first | exact cv | with_reducible rfl)
  (try simp only [Act.put, List.setIfInBounds_toArray, List.set_cons_zero, List.set_cons_succ])
  refine take_want (i := 11) (v := ?v11k0) rfl (by kernel_rfl) (by kernel_rfl) (by kernel_rfl) (fun _ _ _ h => h) (by rfl) ?y11k0 (by assumption) ?r11k0
  case y11k0 => (intro w hSw; go_simp; all_goals with_reducible rfl)
  (try simp only [Act.put, List.setIfInBounds_toArray, List.set_cons_zero, List.set_cons_succ])
  refine take_want (i := 12) (v := .string q0) rfl (by kernel_rfl) (by kernel_rfl) (by kernel_rfl) (fun _ _ _ h => h) (by rfl) ?y12k0 (by assumption) ?r12k0
  case y12k0 => (intro w hSw; have cv := HC0.out w hSw; go_simp; all_goals first | exact cv | with_reducible rfl)
  (try simp only [Act.put, List.setIfInBounds_toArray, List.set_cons_zero, List.set_cons_succ])
  refine take_want (i := 13) (v := ?v13k0) rfl (by kernel_rfl) (by kernel_rfl) (by kernel_rfl) (fun _ _ _ h => h) (by rfl) ?y13k0 (by assumption) ?r13k0
  case y13k0 => (intro w hSw; go_simp; all_goals with_reducible rfl)
  (try simp only [Act.put, List.setIfInBounds_toArray, List.set_cons_zero, List.set_cons_succ])
  refine take_want (i := 14) (v := ?v14k0) rfl (by kernel_rfl) (by kernel_rfl) (by kernel_rfl) (fun _ _ _ h => h) (by rfl) ?y14k0 (by assumption) ?r14k0
  case y14k0 => (intro w hSw; go_simp; all_goals with_reducible rfl)
  (try simp only [Act.put, List.setIfInBounds_toArray, List.set_cons_zero, List.set_cons_succ])
  refine take_want (i := 15) (v := .slice A1 m c1) rfl (by kernel_rfl) (by kernel_rfl) (by kernel_rfl) (fun _ _ _ h => h) (by rfl) ?y15k0 (by assumption) ?r15k0
  case y15k0 => (intro w hSw; have h1 := HMC.out; go_simp; all_goals rw [if_pos h1])
  (try simp only [Act.put, List.setIfInBounds_toArray, List.set_cons_zero, List.set_cons_succ])
  refine take_want (i := 16) (v := .string qt) rfl (by kernel_rfl) (by kernel_rfl) (by kernel_rfl) (fun _ _ _ h => h) (by rfl) ?y16k0 (by assumption) ?r16k0
  case y16k0 => (intro w hSw; have cv := HCT.out w hSw; go_simp; all_goals first | exact cv | with_reducible rfl)
  (try simp only [Act.put, List.setIfInBounds_toArray, List.set_cons_zero, List.set_cons_succ])
  refine take_want (i := 17) (v := .string qb) rfl (by kernel_rfl) (by kernel_rfl) (by kernel_rfl) (fun _ _ _ h => h) (by rfl) ?y17k0 (by assumption) ?r17k0
  case y17k0 => (intro w hSw; have ha := HADB.out; have hs := HSZB.out; go_simp; all_goals rw [ha])
  (try simp only [Act.put, List.setIfInBounds_toArray, List.set_cons_zero, List.set_cons_succ])
  refine take_want (i := 18) (v := .bool true) rfl (by kernel_rfl) (by kernel_rfl) (by kernel_rfl) (fun _ _ _ h => h) (by rfl) ?y18k0 (by assumption) ?r18k0
  case y18k0 => (intro w hSw; go_simp; all_goals first | rfl | simp)
  (try simp only [Act.put, List.setIfInBounds_toArray, List.set_cons_zero, List.set_cons_succ])
  refine take_want (i := 19) (v := .bool true) rfl (by kernel_rfl) (by kernel_rfl) (by kernel_rfl) (fun _ _ _ h => h) (by rfl) ?y19k0 (by assumption) ?r19k0
  case y19k0 => (intro w hSw; go_simp; all_goals first | rfl | simp)
  (try simp only [Act.put, List.setIfInBounds_toArray, List.set_cons_zero, List.set_cons_succ])
  refine take_want (i := 20) (v := ?v20k0) rfl (by kernel_rfl) (by kernel_rfl) (by kernel_rfl) (fun _ _ _ h => h) (by rfl) ?y20k0 (by assumption) ?r20k0
  case y20k0 => (intro w hSw; go_simp; all_goals with_reducible rfl)
  (try simp only [Act.put, List.setIfInBounds_toArray, List.set_cons_zero, List.set_cons_succ])
  refine take_want (i := 21) (v := ?v21k0) rfl (by kernel_rfl) (by kernel_rfl) (by kernel_rfl) (fun _ _ _ h => h) (by rfl) ?y21k0 (by assumption) ?r21k0
  case y21k0 => (intro w hSw; go_simp; all_goals with_reducible rfl)
  (try simp only [Act.put, List.setIfInBounds_toArray, List.set_cons_zero, List.set_cons_succ])
  refine take_want (i := 22) (v := .string qt) rfl (by kernel_rfl) (by kernel_rfl) (by kernel_rfl) (fun _ _ _ h => h) (by rfl) ?y22k0 (by assumption) ?r22k0
  case y22k0 => (intro w hSw; have cv := HCZ.out w hSw; go_simp; all_goals first | exact cv | with_reducible rfl)
  (try simp only [Act.put, List.setIfInBounds_toArray, List.set_cons_zero, List.set_cons_succ])
  refine take_want (i := 23) (v := ?v23k0) rfl (by kernel_rfl) (by kernel_rfl) (by kernel_rfl) (fun _ _ _ h => h) (by rfl) ?y23k0 (by assumption) ?r23k0
  case y23k0 => (intro w hSw; go_simp; all_goals with_reducible rfl)
  (try simp only [Act.put, List.setIfInBounds_toArray, List.set_cons_zero, List.set_cons_succ])
  refine take_want (i := 24) (v := ?v24k0) rfl (by kernel_rfl) (by kernel_rfl) (by kernel_rfl) (fun _ _ _ h => h) (by rfl) ?y24k0 (by assumption) ?r24k0
  case y24k0 => (intro w hSw; go_simp; all_goals with_reducible rfl)
  (try simp only [Act.put, List.setIfInBounds_toArray, List.set_cons_zero, List.set_cons_succ])
  refine take_want (i := 25) (v := .slice A1 m c1) rfl (by kernel_rfl) (by kernel_rfl) (by kernel_rfl) (fun _ _ _ h => h) (by rfl) ?y25k0 (by assumption) ?r25k0
  case y25k0 => (intro w hSw; have h1 := HMC.out; go_simp; all_goals rw [if_pos h1])
  (try simp only [Act.put, List.setIfInBounds_toArray, List.set_cons_zero, List.set_cons_succ])
  refine take_want (i := 26) (v := .string qt) rfl (by kernel_rfl) (by kernel_rfl) (by kernel_rfl) (fun _ _ _ h => h) (by rfl) ?y26k0 (by assumption) ?r26k0
  case y26k0 => (intro w hSw; have cv := HCT.out w hSw; go_simp; all_goals first | exact cv | with_reducible rfl)
  (try simp only [Act.put, List.setIfInBounds_toArray, List.set_cons_zero, List.set_cons_succ])
  refine take_want (i := 27) (v := .bool true) rfl (by kernel_rfl) (by kernel_rfl) (by kernel_rfl) (fun _ _ _ h => h) (by rfl) ?y27k0 (by assumption) ?r27k0
  case y27k0 => (intro w hSw; go_simp; all_goals first | rfl | simp)
  (try simp only [Act.put, List.setIfInBounds_toArray, List.set_cons_zero, List.set_cons_succ])
  refine take_want (i := 28) (v := .bool true) rfl (by kernel_rfl) (by kernel_rfl) (by kernel_rfl) (fun _ _ _ h => h) (by rfl) ?y28k0 (by assumption) ?r28k0
  case y28k0 => (intro w hSw; go_simp; all_goals first | rfl | simp)
  (try simp only [Act.put, List.setIfInBounds_toArray, List.set_cons_zero, List.set_cons_succ])
  refine take_want (i := 29) (v := ?v29k0) rfl (by kernel_rfl) (by kernel_rfl) (by kernel_rfl) (fun _ _ _ h => h) (by rfl) ?y29k0 (by assumption) ?r29k0
  case y29k0 => (intro w hSw; go_simp; all_goals with_reducible rfl)
  (try simp only [Act.put, List.setIfInBounds_toArray, List.set_cons_zero, List.set_cons_succ])
  refine take_want (i := 30) (v := ?v30k0) rfl (by kernel_rfl) (by kernel_rfl) (by kernel_rfl) (fun _ _ _ h => h) (by rfl) ?y30k0 (by assumption) ?r30k0
  case y30k0 => (intro w hSw; go_simp; all_goals with_reducible rfl)
  (try simp only [Act.put, List.setIfInBounds_toArray, List.set_cons_zero, List.set_cons_succ])
  refine take_want (i := 31) (v := .string qb) rfl (by kernel_rfl) (by kernel_rfl) (by kernel_rfl) (fun _ _ _ h => h) (by rfl) ?y31k0 (by assumption) ?r31k0
  case y31k0 => (intro w hSw; have cv := HCW.out w hSw; go_simp; all_goals first | exact cv | with_reducible rfl)
  (try simp only [Act.put, List.setIfInBounds_toArray, List.set_cons_zero, List.set_cons_succ])
  refine take_want (i := 32) (v := ?v32k0) rfl (by kernel_rfl) (by kernel_rfl) (by kernel_rfl) (fun _ _ _ h => h) (by rfl) ?y32k0 (by assumption) ?r32k0
  case y32k0 => (intro w hSw; go_simp; all_goals with_reducible rfl)
  (try simp only [Act.put, List.setIfInBounds_toArray, List.set_cons_zero, List.set_cons_succ])
  refine take_want (i := 33) (v := .string qb) rfl (by kernel_rfl) (by kernel_rfl) (by kernel_rfl) (fun _ _ _ h => h) (by rfl) ?y33k0 (by assumption) ?r33k0
  case y33k0 => (intro w hSw; have cv := HCB.out w hSw; go_simp; all_goals first | exact cv | with_reducible rfl)
  (try simp only [Act.put, List.setIfInBounds_toArray, List.set_cons_zero, List.set_cons_succ])
  refine take_want (i := 34) (v := .bool true) rfl (by kernel_rfl) (by kernel_rfl) (by kernel_rfl) (fun _ _ _ h => h) (by rfl) ?y34k0 (by assumption) ?r34k0
  case y34k0 => (intro w hSw; go_simp; all_goals first | rfl | simp)
  (try simp only [Act.put, List.setIfInBounds_toArray, List.set_cons_zero, List.set_cons_succ])
  refine take_want (i := 35) (v := .bool true) rfl (by kernel_rfl) (by kernel_rfl) (by kernel_rfl) (fun _ _ _ h => h) (by rfl) ?y35k0 (by assumption) ?r35k0
  case y35k0 => (intro w hSw; go_simp; all_goals first | rfl | simp)
  (try simp only [Act.put, List.setIfInBounds_toArray, List.set_cons_zero, List.set_cons_succ])
  refine take_want (i := 36) (v := ?v36k0) rfl (by kernel_rfl) (by kernel_rfl) (by kernel_rfl) (fun _ _ _ h => h) (by rfl) ?y36k0 (by assumption) ?r36k0
  case y36k0 => (intro w hSw; go_simp; all_goals with_reducible rfl)
  (try simp only [Act.put, List.setIfInBounds_toArray, List.set_cons_zero, List.set_cons_succ])
  refine take_want (i := 37) (v := ?v37k0) rfl (by kernel_rfl) (by kernel_rfl) (by kernel_rfl) (fun _ _ _ h => h) (by rfl) ?y37k0 (by assumption) ?r37k0
  case y37k0 => (intro w hSw; go_simp; all_goals with_reducible rfl)
  (try simp only [Act.put, List.setIfInBounds_toArray, List.set_cons_zero, List.set_cons_succ])
  refine take_want (i := 38) (v := .string qu) rfl (by kernel_rfl) (by kernel_rfl) (by kernel_rfl) (fun _ _ _ h => h) (by rfl) ?y38k0 (by assumption) ?r38k0
  case y38k0 => (intro w hSw; have cv := HCU.out w hSw; go_simp; all_goals first | exact cv | with_reducible rfl)
  (try simp only [Act.put, List.setIfInBounds_toArray, List.set_cons_zero, List.set_cons_succ])
  refine take_want (i := 39) (v := ?v39k0) rfl (by kernel_rfl) (by kernel_rfl) (by kernel_rfl) (fun _ _ _ h => h) (by rfl) ?y39k0 (by assumption) ?r39k0
  case y39k0 => (intro w hSw; go_simp; all_goals with_reducible rfl)
  (try simp only [Act.put, List.setIfInBounds_toArray, List.set_cons_zero, List.set_cons_succ])
  refine take_want (i := 40) (v := .string q0) rfl (by kernel_rfl) (by kernel_rfl) (by kernel_rfl) (fun _ _ _ h => h) (by rfl) ?y40k0 (by assumption) ?r40k0
  case y40k0 => (intro w hSw; have cv := HC0.out w hSw; go_simp; all_goals first | exact cv | with_reducible rfl)
  (try simp only [Act.put, List.setIfInBounds_toArray, List.set_cons_zero, List.set_cons_succ])
  refine take_want (i := 41) (v := ?v41k0) rfl (by kernel_rfl) (by kernel_rfl) (by kernel_rfl) (fun _ _ _ h => h) (by rfl) ?y41k0 (by assumption) ?r41k0
  case y41k0 => (intro w hSw; go_simp; all_goals with_reducible rfl)
  (try simp only [Act.put, List.setIfInBounds_toArray, List.set_cons_zero, List.set_cons_succ])
  refine take_want (i := 42) (v := .string q1) rfl (by kernel_rfl) (by kernel_rfl) (by kernel_rfl) (fun _ _ _ h => h) (by rfl) ?y42k0 (by assumption) ?r42k0
  case y42k0 => (intro w hSw; have cv := HC1x.out w hSw; go_simp; all_goals first | exact cv | with_reducible rfl)
  (try simp only [Act.put, List.setIfInBounds_toArray, List.set_cons_zero, List.set_cons_succ])
  refine take_want (i := 43) (v := .string qu) rfl (by kernel_rfl) (by kernel_rfl) (by kernel_rfl) (fun _ _ _ h => h) (by rfl) ?y43k0 (by assumption) ?r43k0
  case y43k0 => (intro w hSw; have ha := HADU.out; have hs := HSZU.out; go_simp; all_goals rw [ha])
  (try simp only [Act.put, List.setIfInBounds_toArray, List.set_cons_zero, List.set_cons_succ])
  refine take_want (i := 44) (v := .bool true) rfl (by kernel_rfl) (by kernel_rfl) (by kernel_rfl) (fun _ _ _ h => h) (by rfl) ?y44k0 (by assumption) ?r44k0
  case y44k0 => (intro w hSw; go_simp; all_goals first | rfl | simp)
  (try simp only [Act.put, List.setIfInBounds_toArray, List.set_cons_zero, List.set_cons_succ])
  refine take_want (i := 45) (v := .bool true) rfl (by kernel_rfl) (by kernel_rfl) (by kernel_rfl) (fun _ _ _ h => h) (by rfl) ?y45k0 (by assumption) ?r45k0
  case y45k0 => (intro w hSw; go_simp; all_goals first | rfl | simp)
  (try simp only [Act.put, List.setIfInBounds_toArray, List.set_cons_zero, List.set_cons_succ])
  refine take_want (i := 46) (v := ?v46k0) rfl (by kernel_rfl) (by kernel_rfl) (by kernel_rfl) (fun _ _ _ h => h) (by rfl) ?y46k0 (by assumption) ?r46k0
  case y46k0 => (intro w hSw; go_simp; all_goals with_reducible rfl)
  (try simp only [Act.put, List.setIfInBounds_toArray, List.set_cons_zero, List.set_cons_succ])
  refine wpAnyH_done (by kernel_rfl) ?_ _
  have hfin := HB13.out.trans (hHeld.mono HB13.out.size)
  go_wp2_with fail
  go_ret
  exact ⟨rfl, hfin⟩
end Go.Proofs.Ytaahomohhagcoaa
