/- What two sets come to: minus. -/
import Derived.Test.YtohdkidfhohmlaaW
import Derived.Maps.AppendAt
namespace Go.Proofs.Ytohdkidfhohmlaa
open Go.RowKit Go.Shelf
set_option linter.unusedSimpArgs false
set_option linter.unusedVariables false
attribute [local go_sem] Oper.semAt_some
def TM (a b : Bool) : Bool := a && !b
theorem takes_minus (a b : Bool) (w : World) : Calls Try.prog 42 #[.bool a, .bool b] w fun e w' => e = .returned (.bool (TM a b)) ∧ w = w' := by
  cases a <;> cases b <;>
  · go_enter Try.func42, Try.ntmps42
    go_wp2
    go_ret
    exact ⟨rfl, rfl⟩
set_option maxRecDepth 100000 in
set_option maxHeartbeats 4000000 in
theorem minus_both (A1 A2 : Option Addr) (m1 c1 m2 c2 : Nat) (X Y : List (Int × Int)) (w : World) (hA1 : Row w A1 (cellsP X)) (hA2 : Row w A2 (cellsP Y)) (hm1 : m1 = X.length) (hm2 : m2 = Y.length) (hc1 : m1 ≤ c1) (hc2 : m2 ≤ c2)
    (hX : rightB (-1) X = true) (hY : rightB (-1) Y = true) :
    Calls Try.prog 39 #[.slice A1 m1 c1, .slice A2 m2 c2, .func (.func 42) #[] #[]] w (BothPost TM w X Y) := by
  refine (callsIn_wide (n := 9)).1 ?_
  have HX := Lib.hid hX
  have HY := Lib.hid hY
  have HM1 := Lib.hid hm1
  have HM2 := Lib.hid hm2
  have HC1 := Lib.hid hc1
  have HC2 := Lib.hid hc2
  have hl1 : m1 ≤ 65537 := by rw [hm1]; exact right_length hX
  have hl2 : m2 ≤ 65537 := by rw [hm2]; exact right_length hY
  obtain ⟨i0, hi0, hz0, hz1, hz2⟩ := info_parts Try.info3
  have HA1 := Lib.hid hA1
  have HA2 := Lib.hid hA2
  clear hX hY hm1 hm2 hc1 hc2 hA1 hA2
  refine callsIn_of_wp_marks Try.func39 rfl trivial ?_ rfl
  simp only [Try.ntmps39, List.size_toArray, List.length_cons, List.length_nil, Nat.reduceAdd, Nat.reduceSub, Array.replicate_succ, Array.replicate_zero, List.push_toArray, List.append_toArray, List.nil_append, List.cons_append]
  gi_wp2
  refine ⟨trivial, (callsIn_wide.2 (right_any A1 m1 c1 X _ HA1.out HM1.out (by omega))).mono ?_⟩
  rintro e w1 ⟨rfl, hB1⟩
  rw [HX.out]
  have HB1 := Lib.hid hB1
  have HA2' := Lib.hid (HA2.out.keep (Nat.le_refl _) hB1)
  clear hB1
  gi_wp2
  refine ⟨trivial, (callsIn_wide.2 (right_any A2 m2 c2 Y _ HA2'.out HM2.out (by omega))).mono ?_⟩
  rintro e w2 ⟨rfl, hB2⟩
  rw [HY.out]
  have HB2 := Lib.hid (bthen HB1.out hB2)
  have hs2 := HB2.out.size
  clear hB2 HA2' HB1
  gi_wp2
  refine ⟨trivial, (callsIn_wide.2 (ends_maker A1 m1 c1 _)).mono ?_⟩
  rintro e w3 ⟨rfl, rfl⟩
  gi_wp2
  obtain ⟨W3, hW3⟩ : ∃ W3, (w2.alloc (Obj.cells #[Value.slice none 0 0] 22)).alloc (Obj.cells #[Value.slice A1 m1 c1] 24) = W3 := ⟨_, rfl⟩
  have hs3 : W3.heap.size = w2.heap.size + 2 := by rw [← hW3]; simp
  have HBX3 := Lib.hid (show Boxed W3 w2.heap.size 22 (.slice none 0 0) by rw [← hW3]; exact (Boxed.new _ _ _).alloc _)
  have HBE3 := Lib.hid (show W3.cell? ⟨w2.heap.size + 1, 0, none⟩ = some (.slice A1 m1 c1) by
    rw [← hW3]; have := (Boxed.new (w2.alloc (Obj.cells #[Value.slice none 0 0] 22)) 24 (.slice A1 m1 c1)).cell; rw [World.size_alloc] at this; exact this)
  have HB3 := Lib.hid (show Below w.heap.size w W3 by rw [← hW3]; exact (bpush (bpush HB2.out _) _))
  rw [hW3]
  clear hW3
  refine wpIn_rangeFunc_ownF rfl (by omega) (gf := 59) (lb := #[.pointer (some ⟨w2.heap.size + 1, 0, none⟩)]) rfl trivial (enters_of Try.func59 (by kernel_rfl) rfl)
    (ends_stops (9 - 1) (by omega) (w2.heap.size + 1) w.heap.size m1 c1 A1 X HM1.out (by omega) w (Nat.le_refl _) W3 HBE3.out HA1.out HB3.out HB3.out.size (by omega)) kps_t (kps_b HB3.out.size) (Below.refl _ _) (fun _ => rfl)
    (fun pre W => Col w.heap.size w2.heap.size w ([] ++ pre) W) (fun _ _ _ => False) (col_own _ _ _ _ _ HB3.out.size (Nat.le_refl _)) (fun _ _ _ _ _ hs _ _ => hs)
    ⟨⟨_, HBX3.out, World.ownsRow_nil _ _ _ _, trivial⟩, HB3.out⟩
    (fun x => { tmps := #[Value.slice A1 m1 c1, Value.slice A2 m2 c2, Value.func (Fn.func 42) #[] #[], undef, undef, undef, Value.slice none 0 0, Value.pointer (some ⟨w2.heap.size, 0, none⟩), Value.int .i64 x, undef, undef, undef, undef, undef, Value.slice A1 m1 c1, Value.bool true, Value.bool false, Value.bool false, Value.slice A2 m2 c2, Value.bool true, Value.bool false, Value.bool false, Value.slice A1 m1 c1, Value.func (Fn.func 59) #[] #[Value.pointer (some ⟨w2.heap.size + 1, 0, none⟩)], Value.int .i64 x, undef, undef, undef, undef, undef, undef, undef, undef, undef, undef, undef, undef, undef, undef, undef, undef, undef, undef, undef, undef, undef, undef, undef, undef, undef, undef, undef, undef, undef, undef, undef, undef, undef, undef, undef, undef, undef, undef, undef, undef, undef, undef, undef, undef, undef, undef, undef, undef, undef, undef, undef, undef, undef, undef], defers := [] }) ?assign ?body ?done ?stop
  case assign =>
    intro l x W K hK
    gi_wp2
    exact hK
  case stop =>
    rintro D c pre W _ _ h _
    exact h.elim
  case body =>
    rintro l pre x W ⟨⟨v, hbx, hown, -⟩, hB⟩ hlen
    rw [List.nil_append] at hown
    have hcb := hbx.cell
    have hfb := hbx.frozen
    have hln : pre.length < X.length * 2 := hlen
    have HLN := Lib.hid (show pre.length ≤ 140000 by have := HM1.out; omega)
    have hpl := HLN.out
    obtain ⟨q, hq⟩ : ∃ q, pre.length = q := ⟨_, rfl⟩
    have HQ := Lib.hid hq
    rw [hq] at hown hpl
    have HOWN := Lib.hid hown
    have HBXX := Lib.hid hbx
    have HBB := Lib.hid hB
    clear hlen hln hq hbx hB
    gi_wp2_with (gi_at_builtin; refine wpListIn_append_own _ rfl _ _ 22 rfl w.heap.size 3 i0 (.int .i64 0) 1 8 Try.underlying22 hi0 hz0 hz1 hz2 rfl (by decide) _ _ _ rfl (hown.alloc _) ⟨W.heap.size, 0, none⟩ 1 1 [.int .i64 x] rfl rfl (cell_one_new _ _ _) (by simp [Value.oneCell']) (by unfold maxLen; omega) (by omega) (by have := HBB.out.size; simp; omega) ?_)
    intro v' w1' hown' hgrow _
    obtain ⟨g', cap', rfl⟩ := ownsRow_succ hown'
    obtain ⟨hv1, hv2, hr2, hk2, hb2⟩ := HBXX.out.appended (by decide) HOWN.out HBB.out.size hs2 hown' hgrow
    have HKP := Lib.hid (show ∀ g cs, Blk W g 45 cs → Blk (w1'.setCell ⟨w2.heap.size, 0, none⟩ (.slice (some ⟨g', 0, none⟩) (q + 1) cap')) g 45 cs from fun g cs h =>
      Blk.far ((hgrow.block g (by have := Blk.lt h; simp; omega) (blk_not_row h HOWN.out)).trans (Blk.alloc h _)) (p := ⟨w2.heap.size, 0, none⟩) (fun e => by subst e; have h2 := HBXX.out; unfold Boxed at h2; rw [show W.heap[_]? = _ from h] at h2; cases h2) _)
    have hc1 := hv1.cell
    have hf1 := hv1.frozen
    have HV2 := Lib.hid hv2
    have HR2 := Lib.hid hr2
    have HK2 := Lib.hid hk2
    have HB2' := Lib.hid hb2
    clear hv1 hv2 hr2 hk2 hb2 hown' hgrow hown
    gi_wp2
    exact ⟨HK2.out, ⟨HB2'.out, HKP.out⟩, ⟨⟨_, HV2.out, by rw [List.nil_append, List.length_append, HQ.out]; simpa using HR2.out, trivial⟩, HBB.out.trans HB2'.out⟩⟩
  case done =>
    rintro D ys W hD rfl hcol hK
    have HCOL := Lib.hid hcol
    have HDEF := Lib.hid hK
    clear hcol hK
    gi_wp2
    refine ⟨trivial, (callsIn_wide.2 (ends_maker A2 m2 c2 _)).mono ?_⟩
    rintro e w4 ⟨rfl, rfl⟩
    gi_wp2
    obtain ⟨b4, hb4⟩ : ∃ b4, b4 = W.heap.size := ⟨_, rfl⟩
    obtain ⟨W4, hW4⟩ : ∃ W4, W.alloc (Obj.cells #[Value.slice A2 m2 c2] 24) = W4 := ⟨_, rfl⟩
    have hs4 : W4.heap.size = b4 + 1 := by rw [← hW4, hb4]; simp
    have hDlt : D < b4 := by rw [hb4]; exact (Array.getElem?_eq_some_iff.1 HDEF.out).1
    have HCOL4 := Lib.hid (show Col w.heap.size w2.heap.size w (endsL X) W4 by
      obtain ⟨⟨v, h1, h2, h3⟩, h4⟩ := HCOL.out
      rw [← hW4]; exact ⟨⟨v, h1.alloc _, h2.alloc _, h3⟩, bpush h4 _⟩)
    have HDEF4 := Lib.hid (show W4.heap[D]? = some (.deferred (some [])) by rw [← hW4]; exact (Below.heap_alloc W _ D (by omega)).trans HDEF.out)
    have HBE4 := Lib.hid (show W4.cell? ⟨b4, 0, none⟩ = some (.slice A2 m2 c2) by rw [← hW4, hb4]; exact (Boxed.new W 24 (.slice A2 m2 c2)).cell)
    have HB4 := Lib.hid HCOL4.out.2
    have hB2b : w2.heap.size + 2 ≤ b4 := by omega
    rw [hW4, ← hb4]
    clear hW4 hb4
    refine wpIn_rangeFunc_ownF rfl (by omega) (gf := 59) (lb := #[.pointer (some ⟨b4, 0, none⟩)]) rfl trivial (enters_of Try.func59 (by kernel_rfl) rfl)
      (ends_stops (9 - 1) (by omega) b4 w.heap.size m2 c2 A2 Y HM2.out (by omega) w (Nat.le_refl _) W4 HBE4.out HA2.out HB4.out HB4.out.size (by omega)) kps_t (kps_b HB4.out.size) (Below.refl _ _) (fun _ => rfl)
      (fun pre W' => Col w.heap.size w2.heap.size w (endsL X ++ pre) W' ∧ W'.heap[D]? = some (.deferred (some []))) (fun _ _ _ => False)
      (OwnFrom.and (col_own _ _ _ _ _ HB4.out.size (Nat.le_refl _)) (fun s A B row h hg hr => (hg.block D (Array.getElem?_eq_some_iff.1 h).1 (fun e => by have := (hr D e.symm).1; omega)).trans h)) (fun _ _ _ _ _ hs _ _ => hs)
      ⟨by rw [List.append_nil]; exact HCOL4.out, HDEF4.out⟩
      (fun x => { tmps := #[Value.slice A1 m1 c1, Value.slice A2 m2 c2, Value.func (Fn.func 42) #[] #[], undef, undef, undef, Value.slice none 0 0, Value.pointer (some ⟨w2.heap.size, 0, none⟩), undef, Value.int .i64 x, undef, undef, undef, undef, Value.slice A1 m1 c1, Value.bool true, Value.bool false, Value.bool false, Value.slice A2 m2 c2, Value.bool true, Value.bool false, Value.bool false, Value.slice A1 m1 c1, Value.func (Fn.func 59) #[] #[Value.pointer (some ⟨w2.heap.size + 1, 0, none⟩)], undef, undef, undef, undef, undef, Value.slice A2 m2 c2, Value.func (Fn.func 59) #[] #[Value.pointer (some ⟨b4, 0, none⟩)], Value.int .i64 x, undef, undef, undef, undef, undef, undef, undef, undef, undef, undef, undef, undef, undef, undef, undef, undef, undef, undef, undef, undef, undef, undef, undef, undef, undef, undef, undef, undef, undef, undef, undef, undef, undef, undef, undef, undef, undef, undef, undef, undef, undef, undef, undef, undef, undef, undef, undef], defers := [] }) ?assign2 ?body2 ?done2 ?stop2
    case assign2 =>
      intro l x W K hK
      gi_wp2
      exact hK
    case stop2 =>
      rintro D c pre W _ _ h _
      exact h.elim
    case body2 =>
      clear HCOL HDEF HDEF4 hs4 HBE4 HCOL4 HB4
      rintro l pre x W ⟨⟨⟨v, hbx, hown, -⟩, hB⟩, hdf⟩ hlen
      have hcb := hbx.cell
      have hfb := hbx.frozen
      have hln : pre.length < Y.length * 2 := hlen
      have HLN := Lib.hid (show (endsL X ++ pre).length ≤ 300000 by rw [List.length_append, endsL_length]; have := HM2.out; have := HM1.out; omega)
      have hpl := HLN.out
      obtain ⟨q, hq⟩ : ∃ q, (endsL X ++ pre).length = q := ⟨_, rfl⟩
      have HQ := Lib.hid hq
      rw [hq] at hown hpl
      have HOWN := Lib.hid hown
      have HBXX := Lib.hid hbx
      have HBB := Lib.hid hB
      have HDF := Lib.hid hdf
      clear hlen hln hq hbx hB hdf
      gi_wp2_with (gi_at_builtin; refine wpListIn_append_own _ rfl _ _ 22 rfl w.heap.size 3 i0 (.int .i64 0) 1 8 Try.underlying22 hi0 hz0 hz1 hz2 rfl (by decide) _ _ _ rfl (hown.alloc _) ⟨W.heap.size, 0, none⟩ 1 1 [.int .i64 x] rfl rfl (cell_one_new _ _ _) (by simp [Value.oneCell']) (by unfold maxLen; omega) (by omega) (by have := HBB.out.size; simp; omega) ?_)
      intro v' w1' hown' hgrow _
      obtain ⟨g', cap', rfl⟩ := ownsRow_succ hown'
      obtain ⟨hv1, hv2, hr2, hk2, hb2⟩ := HBXX.out.appended (by decide) HOWN.out HBB.out.size hs2 hown' hgrow
      have HKP := Lib.hid (show ∀ g cs, Blk W g 45 cs → Blk (w1'.setCell ⟨w2.heap.size, 0, none⟩ (.slice (some ⟨g', 0, none⟩) (q + 1) cap')) g 45 cs from fun g cs h =>
        Blk.far ((hgrow.block g (by have := Blk.lt h; simp; omega) (blk_not_row h HOWN.out)).trans (Blk.alloc h _)) (p := ⟨w2.heap.size, 0, none⟩) (fun e => by subst e; have h2 := HBXX.out; unfold Boxed at h2; rw [show W.heap[_]? = _ from h] at h2; cases h2) _)
      have hc1 := hv1.cell
      have hf1 := hv1.frozen
      have HV2 := Lib.hid hv2
      have HR2 := Lib.hid hr2
      have HK2 := Lib.hid hk2
      have HB2' := Lib.hid hb2
      clear hv1 hv2 hr2 hk2 hb2 hown' hgrow hown
      gi_wp2
      exact ⟨HK2.out, ⟨HB2'.out, HKP.out⟩, ⟨⟨_, HV2.out, by rw [← List.append_assoc, List.length_append, HQ.out]; simpa using HR2.out, trivial⟩, HBB.out.trans HB2'.out⟩, HK2.out.same D _ HDF.out rfl⟩
    case done2 =>
      rintro D2 ys W5 hD2 rfl ⟨⟨⟨v, hbx, hown, -⟩, hB⟩, hdf⟩ hK
      clear HCOL HDEF HDEF4 HBE4 HCOL4 HB4 HBX3 HBE3 HB3 HB2
      have hcb := hbx.cell
      obtain ⟨q, hq⟩ : ∃ q, (endsL X ++ endsL Y).length = q := ⟨_, rfl⟩
      have hql : q = m1 * 2 + m2 * 2 := by rw [← hq, List.length_append, endsL_length, endsL_length, HM1.out, HM2.out]
      have HQC := Lib.hid (show q = (cutsL X Y).length by rw [← hq, cutsL, srt_length])
      rw [hq] at hown
      have HOWN := Lib.hid hown
      have HBXX := Lib.hid hbx
      have HBB := Lib.hid hB
      have HDF := Lib.hid hdf
      have HDK := Lib.hid hK
      have HQL := Lib.hid hql
      have hq9 : q ≤ 300000 := by omega
      have HDL := Lib.hid hD2
      clear hq hbx hown hB hdf hK hql hD2
      gi_wp2
      refine ⟨trivial, (callsIn_wide.2 (sort_own2 w.heap.size v q _ _ HOWN.out (by omega))).mono ?_⟩
      rintro e w6 ⟨rfl, hown6, hg6⟩
      clear hcb
      have HBX6 := Lib.hid (HBXX.out.kept hg6 (HBXX.out.not_row (by decide) HOWN.out))
      have HB6 := Lib.hid (show Below w.heap.size w w6 from HBB.out.grown hg6 HBB.out.size (fun k hk => (HOWN.out.lt k hk).1))
      have HDF6 := Lib.hid ((hg6.block D (Array.getElem?_eq_some_iff.1 HDF.out).1 (def_not_row HDF.out HOWN.out)).trans HDF.out)
      have HDK6 := Lib.hid ((hg6.block D2 (Array.getElem?_eq_some_iff.1 HDK.out).1 (def_not_row HDK.out HOWN.out)).trans HDK.out)
      have HR6 : Hid (∃ A c, v = .slice A q c ∧ Row w6 A ((cutsL X Y).map (Value.int .i64))) := Lib.hid (by
        rcases Nat.eq_zero_or_pos q with h0 | h0
        · have hz0 : cutsL X Y = [] := List.length_eq_zero_iff.1 (by rw [← HQC.out]; exact h0)
          rcases hown6.2 with ⟨rfl, _⟩ | ⟨g, cap, cur, rfl, _⟩
          · exact ⟨none, 0, by rw [h0], .inl (by rw [hz0]; rfl)⟩
          · exact ⟨_, cap, rfl, .inl (by rw [hz0]; rfl)⟩
        · obtain ⟨g, cap, rfl, _, hr⟩ := Row.of_own hown6 h0
          exact ⟨_, cap, rfl, hr⟩)
      obtain ⟨A6, c6, rfl, hrow6⟩ := HR6.out
      have HROW6 := Lib.hid hrow6
      clear hown6 hg6 HR6 hrow6 HDF HDK HBB HBXX HOWN
      have hcb := HBX6.out.cell
      obtain ⟨z, hz⟩ : ∃ z, z = cutsL X Y := ⟨_, rfl⟩
      have HZ := Lib.hid hz
      rw [← hz] at HROW6 HQC
      clear hz
      gi_wp2
      obtain ⟨M, hM⟩ : ∃ M : Nat, max (0 : Int) ((q : Int) - 1) = (M : Int) := ⟨q - 1, by omega⟩
      rw [hM]
      have hMq : M = q - 1 := by omega
      have hM9 : M ≤ 300000 := by omega
      have HMQ := Lib.hid hMq
      have HCB := Lib.hid hcb
      clear hM hMq hcb
      have HCX0 := Lib.hid (show CurSt A1 X z 0 A1 m1 c1 X from ⟨HM1.out, HC1.out, fun _ h => h, fun _ => rfl⟩)
      have HCY0 := Lib.hid (show CurSt A2 Y z 0 A2 m2 c2 Y from ⟨HM2.out, HC2.out, fun _ h => h, fun _ => rfl⟩)
      have HBS0 := Lib.hid (show BSt TM X Y 0 [] from BSt.zero rfl HX.out HY.out)
      gi_loopw [0, 1, 10, 42] (fun a b s i wr => ∃ (k nX cX nY cY : Nat) (AX AY : Option Addr) (Xc Yc L : List (Int × Int)), k ≤ M ∧ i = .int .i64 k ∧ a = .slice AX nX cX ∧ b = .slice AY nY cY ∧ nX ≤ 70000 ∧ nY ≤ 70000 ∧
          Hid (CurSt A1 X z k AX nX cX Xc) ∧ Hid (CurSt A2 Y z k AY nY cY Yc) ∧ Hid (BSt TM X Y k L) ∧ Hid (L = [] → s = .slice none 0 0) ∧ Hid (OwnP w6.heap.size wr s L) ∧ Hid (Below w6.heap.size w6 wr)) (fun _ _ _ i _ => M - (intOf i).toNat)
      case atStart => exact ⟨0, m1, c1, m2, c2, A1, A2, X, Y, [], by omega, rfl, rfl, rfl, by omega, by omega, HCX0, HCY0, HBS0, Lib.hid (fun _ => rfl), Lib.hid (World.ownsRow_nil _ _ _ _), Lib.hid (Below.refl _ _)⟩
      case round =>
        clear HCX0 HCY0 HBS0
        obtain ⟨k, nX, cX, nY, cY, AX, AY, Xc, Yc, L, hk, rfl, rfl, rfl, hnX, hnY, HCX, HCY, HBS, HNIL, HOW, HB⟩ := hrel
        have HBW := Lib.hid (show Below w.heap.size w wr from HB6.out.trans (HB.out.mono HB6.out.size))
        by_cases hlt : k < M
        · have hkz : k + 1 < z.length := by have := HQC.out; have := HMQ.out; omega
          have hrw := HROW6.out.keep (Nat.le_refl _) HB.out
          obtain ⟨b, off, hA', c0⟩ := hrw.cell (i := k) (by omega)
          obtain ⟨b', off', hA'', d0⟩ := hrw.cell (i := k + 1) (by omega)
          obtain ⟨F, hF⟩ : ∃ F, F = z[k] := ⟨_, rfl⟩
          obtain ⟨T, hT⟩ : ∃ T, T = z[k + 1] := ⟨_, rfl⟩
          rw [← hF] at c0
          rw [← hT] at d0
          have hzz : z[k] ≤ z[k + 1] := by
            have h1 := HZ.out; subst h1
            exact srt_le _ (Nat.lt_succ_self k) hkz
          have hFT : F ≤ T := by rw [hF, hT]; exact hzz
          have hF0 : 0 ≤ F ∧ F ≤ 65536 := by rw [hF]; have h1 := HZ.out; subst h1; exact cuts_bd HX.out HY.out (List.getElem_mem _)
          have hT0 : 0 ≤ T ∧ T ≤ 65536 := by rw [hT]; have h1 := HZ.out; subst h1; exact cuts_bd HX.out HY.out (List.getElem_mem _)
          obtain ⟨hF0, hF6⟩ := hF0
          obtain ⟨hT0, hT6⟩ := hT0
          have HF := Lib.hid hF
          have HT := Lib.hid hT
          have HKZ := Lib.hid hkz
          have hk1 : (k : Int) < (M : Int) := by omega
          have hk0 : (0 : Int) ≤ (k : Int) := by omega
          have hkq : (k : Int) < (q : Int) := by have := HMQ.out; omega
          have hkq1 : (k : Int) + 1 < (q : Int) := by have := HMQ.out; omega
          have hkw : IntKind.i64.wrap ((k : Int) + 1) = (k : Int) + 1 := IntWalk.i64_in _ (by omega)
          have hkt : ((k : Int) + 1).toNat = k + 1 := by omega
          have hk2 : (0 : Int) ≤ (k : Int) + 1 := by omega
          rw [hA'] at hA''
          obtain ⟨rfl, rfl⟩ : b = b' ∧ off = off' := by injection hA'' with h; injection h with h1 h2; exact ⟨h1, h2⟩
          have hcb : wr.cell? ⟨w2.heap.size, 0, none⟩ = some (.slice (some ⟨b, off, none⟩) q c6) := by
            rw [← hA']; exact (HB.out.cell (p := ⟨w2.heap.size, 0, none⟩) HBX6.out.lt).trans HCB.out
          have d1 : wr.cell? ⟨b, off + k + 1, none⟩ = some (.int .i64 T) := by rw [← d0]; congr 2
          have HCX2 : Hid (∀ AX' cX', (∀ W, Row W AX (cellsP Xc) → Row W AX' (cellsP (dropB F Xc))) → (dropB F Xc).length ≤ cX' → CurSt A1 X z (k + 1) AX' (dropB F Xc).length cX' (dropB F Xc)) := Lib.hid (fun AX' cX' h1 h2 => HCX.out.next hkz hF hzz h1 h2)
          have HCY2 : Hid (∀ AY' cY', (∀ W, Row W AY (cellsP Yc) → Row W AY' (cellsP (dropB F Yc))) → (dropB F Yc).length ≤ cY' → CurSt A2 Y z (k + 1) AY' (dropB F Yc).length cY' (dropB F Yc)) := Lib.hid (fun AY' cY' h1 h2 => HCY.out.next hkz hF hzz h1 h2)
          have HDX := Lib.hid (show dropB F Xc = dropB F X by rw [hF]; exact HCX.out.2.2.2 (by omega))
          have HDY := Lib.hid (show dropB F Yc = dropB F Y by rw [hF]; exact HCY.out.2.2.2 (by omega))
          have HRX := Lib.hid (show Row wr AX (cellsP Xc) from HCX.out.2.2.1 _ (HA1.out.keep (Nat.le_refl _) HBW.out))
          have HRY := Lib.hid (show Row wr AY (cellsP Yc) from HCY.out.2.2.1 _ (HA2.out.keep (Nat.le_refl _) HBW.out))
          have HSK : Hid ((F < T → TM (hasB F X) (hasB F Y) = false) → BSt TM X Y (k + 1) L) := Lib.hid (fun h => by
            have h1 := HZ.out
            subst h1
            exact HBS.out.skip hkz HBS.out.2.1 (fun h9 => by rw [← hF]; exact h (by rw [hF, hT]; exact h9)))
          have HNX : Hid (F < T → TM (hasB F X) (hasB F Y) = true → ∀ N', rightB (-1) N' = true → lastE (-1) N' = T → (∀ y, hasB y N' = (hasB y L || decide (F ≤ y ∧ y < T))) → BSt TM X Y (k + 1) N') := Lib.hid (fun h1 h2 N' n1 n2 n3 => by
            have h0 := HZ.out
            subst h0
            rw [hF, hT] at h1 n3; rw [hT] at n2; rw [hF] at h2
            exact HBS.out.next hkz h1 h2 n1 n2 n3)
          have HLE := Lib.hid (show lastE (-1) L ≤ F by
            have h0 := HZ.out
            subst h0
            rw [hF]; exact (HBS.out.2.2 (by omega)).1)
          have HSZ := Lib.hid (show w6.heap.size ≤ wr.heap.size from HB.out.size)
          clear hF hT hrw hA'' hA' hzz
          gi_wp2
          refine wpIn_wide.2 ?_
          go_quiet (fail)
          obtain ⟨wd, hwd⟩ : ∃ wd, wd = wr.drewN nq := ⟨_, rfl⟩
          have HOWd := Lib.hid (show OwnP w6.heap.size wd u10 L by rw [hwd]; exact HOW.out)
          have HBd := Lib.hid (show Below w6.heap.size w6 wd by rw [hwd]; exact below_drewN HB.out _)
          have HRXd := Lib.hid (show Row wd AX (cellsP Xc) by rw [hwd]; exact HRX.out)
          have HRYd := Lib.hid (show Row wd AY (cellsP Yc) by rw [hwd]; exact HRY.out)
          rw [← hwd]
          clear hwd c0 d0 d1 hcb HOW HB HRX HRY
          gi_wp2
          refine ⟨trivial, (callsIn_wide.2 (ahead_any AX nX cX F Xc _ HRXd.out HCX.out.1 HCX.out.2.1 (by omega))).mono ?_⟩
          rintro e w7 ⟨AX', cX', rfl, hrx, hcx, rfl⟩
          have HCX3 := Lib.hid (HCX2.out AX' cX' hrx hcx)
          have HRX3 := Lib.hid (hrx _ HRXd.out)
          have hnx : (dropB F Xc).length ≤ 70000 := Nat.le_trans (drop_length F Xc) (by rw [← HCX.out.1]; exact hnX)
          clear hrx hcx
          gi_wp2
          refine ⟨trivial, (callsIn_wide.2 (ahead_any AY nY cY F Yc _ HRYd.out HCY.out.1 HCY.out.2.1 (by omega))).mono ?_⟩
          rintro e w7 ⟨AY', cY', rfl, hry, hcy, rfl⟩
          have HCY3 := Lib.hid (HCY2.out AY' cY' hry hcy)
          have HRY3 := Lib.hid (hry _ HRYd.out)
          have hny : (dropB F Yc).length ≤ 70000 := Nat.le_trans (drop_length F Yc) (by rw [← HCY.out.1]; exact hnY)
          clear hry hcy
          rw [HDX.out] at HCX3 HRX3 hnx ⊢
          rw [HDY.out] at HCY3 HRY3 hny ⊢
          obtain ⟨lx, hlx⟩ : ∃ lx, lx = (dropB F X).length := ⟨_, rfl⟩
          obtain ⟨ly, hly⟩ : ∃ ly, ly = (dropB F Y).length := ⟨_, rfl⟩
          rw [← hlx] at HCX3 hnx ⊢
          rw [← hly] at HCY3 hny ⊢
          have HLX := Lib.hid hlx
          have HLY := Lib.hid hly
          obtain ⟨ba, hba⟩ : ∃ ba, ba = hasB F X := ⟨_, rfl⟩
          obtain ⟨bb, hbb⟩ : ∃ bb, bb = hasB F Y := ⟨_, rfl⟩
          rw [← hba, ← hbb] at HSK HNX
          have HBA := Lib.hid (show begB F (dropB F X) = ba by rw [hba]; exact beg_has HX.out)
          have HBB := Lib.hid (show begB F (dropB F Y) = bb by rw [hbb]; exact beg_has HY.out)
          clear hlx hly hba hbb
          by_cases hlt2 : F < T
          · gi_wp2
            refine ⟨trivial, (callsIn_wide.2 (begun_any AX' lx cX' F _ _ HRX3.out HLX.out (by omega))).mono ?_⟩
            rintro e w7 ⟨rfl, rfl⟩
            rw [HBA.out]
            gi_wp2
            refine ⟨trivial, (callsIn_wide.2 (begun_any AY' ly cY' F _ _ HRY3.out HLY.out (by omega))).mono ?_⟩
            rintro e w7 ⟨rfl, rfl⟩
            rw [HBB.out]
            gi_wp2
            refine ⟨trivial, (callsIn_wide.2 (takes_minus ba bb _)).mono ?_⟩
            rintro e w7 ⟨rfl, rfl⟩
            obtain ⟨r, hr⟩ : ∃ r, TM ba bb = r := ⟨_, rfl⟩
            rw [hr] at HSK HNX ⊢
            clear hr
            cases r with
            | true =>
              have HP := Lib.hid (put_any w6.heap.size u10 L F T wd HBd.out.size HOWd.out HNIL.out HBS.out.1 HLE.out hF0 hlt2 hT6)
              gi_wp2
              refine ⟨trivial, (callsIn_wide.2 HP.out).mono ?_⟩
              rintro e w8 ⟨N', v', n1, n2, n3, n4, rfl, hO8, hB8⟩
              have HBS2 := Lib.hid (HNX.out hlt2 trivial N' n1 n2 n3)
              have HNIL2 := Lib.hid (show N' = [] → v' = .slice none 0 0 from fun h => absurd h n4)
              have HO8 := Lib.hid hO8
              have HB8 := Lib.hid (HBd.out.trans hB8)
              clear n1 n2 n3 n4 hO8 hB8
              gi_wp2
              go_roundw
              case rel => exact ⟨k + 1, lx, cX', ly, cY', AX', AY', _, _, N', by omega, by go_num, rfl, rfl, by omega, by omega, HCX3, HCY3, HBS2, HNIL2, HO8, HB8⟩
              case measure => simp [intOf]; omega
            | false =>
              have HBS2 := Lib.hid (HSK.out (fun _ => rfl))
              gi_wp2
              go_roundw
              case rel => exact ⟨k + 1, lx, cX', ly, cY', AX', AY', _, _, L, by omega, by go_num, rfl, rfl, by omega, by omega, HCX3, HCY3, HBS2, HNIL, HOWd, HBd⟩
              case measure => simp [intOf]; omega
          · have HBS2 := Lib.hid (HSK.out (fun h => absurd h hlt2))
            gi_wp2
            refine ⟨trivial, ?_⟩
            gi_wp2
            refine ⟨trivial, ?_⟩
            gi_wp2
            refine ⟨fun _ h => (by cases h), ?_⟩
            gi_wp2
            go_roundw
            case rel => exact ⟨k + 1, lx, cX', ly, cY', AX', AY', _, _, L, by omega, by go_num, rfl, rfl, by omega, by omega, HCX3, HCY3, HBS2, HNIL, HOWd, HBd⟩
            case measure => simp [intOf]; omega
        · have hk1 : ¬ (k : Int) < (M : Int) := by omega
          have HFIN := Lib.hid (show ∀ x, hasB x L = TM (hasB x X) (hasB x Y) from HBS.out.fin rfl (by
            have h0 := HZ.out
            subst h0
            have := HQC.out
            have := HMQ.out
            rcases Nat.eq_zero_or_pos q with h | h
            · right; omega
            · left; omega))
          obtain ⟨A3, c3, hs3, hr3, hl3⟩ := own_slice HOW.out
          have HL3 := Lib.hid hl3
          clear hl3
          have HR3 := Lib.hid hr3
          subst hs3
          have HD6 := Lib.hid ((HB.out.block D (Array.getElem?_eq_some_iff.1 HDF6.out).1).trans HDF6.out)
          have HD7 := Lib.hid ((HB.out.block D2 (Array.getElem?_eq_some_iff.1 HDK6.out).1).trans HDK6.out)
          have HOF := Lib.hid HOW.out
          clear hr3
          gi_wp2
          refine ⟨by simp, .inl ⟨_, _, rfl, run_takeDeferred HD7.out, ?_⟩⟩
          have hdd : D ≠ D2 := by have := HDL.out; omega
          have HD6' := Lib.hid (show (wr.putObj D2 (Obj.deferred none)).heap[D]? = some (.deferred (some [])) from (World.putObj_heap_other hdd).trans HD6.out)
          refine ⟨by simp, .inl ⟨_, _, rfl, run_takeDeferred HD6'.out, ?_⟩⟩
          have hof : OwnP w6.heap.size ((wr.putObj D2 (Obj.deferred none)).putObj D (Obj.deferred none)) (.slice A3 L.length c3) L := ownsRow_putObj (ownsRow_putObj HOF.out (.deferred none) HD7.out rfl) (.deferred none) HD6'.out rfl
          obtain ⟨A4, c4, he4, hr4, _⟩ := own_slice hof
          cases he4
          have hsD : w.heap.size ≤ D := by have := HBW.out.size; omega
          refine ⟨_, results_tmp rfl _ _ _, L, A3, c3, rfl, hr4, HL3.out, HBS.out.1, HFIN.out, ?_⟩
          exact (HBW.out.grown (grownBy_putObj' _ _ _) HBW.out.size (fun j e => by cases e; have := HDL.out; omega)).grown (grownBy_putObj' _ _ _) (by simpa using HBW.out.size) (fun j e => by cases e; exact hsD)
end Go.Proofs.Ytohdkidfhohmlaa
