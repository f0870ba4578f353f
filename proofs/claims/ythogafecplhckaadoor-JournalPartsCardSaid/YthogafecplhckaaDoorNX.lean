/- JournalKept (4). -/
import Derived.Test.YthogafecplhckaaDoorNW
import Derived.Test.YthogafecplhckaaDoorNV
namespace Go.Proofs.YthogafecplhckaaDoor
open Go.RowKit
set_option linter.unusedSimpArgs false
set_option linter.unusedVariables false
theorem VRep.safe_norm {w : World} {B a : Nat} {V : VZ} (h : VRep w B a V) : ∀ f ∈ (normZ V).F, f.safe ≤ f.n := fun f hf => by
  obtain ⟨g, hg, rfl⟩ := List.mem_map.1 (show f ∈ V.F.map normF from hf)
  exact h.safe g hg
/-- A loop's state: the vault, what is told and what is asked. -/
structure KSt (L M : List ByteArray) (Z : List EZ) (w2 wr : World) (a : Nat) (j : Nat) (tv kv : Value) (V : VZ) (T K : List EZ) : Prop where
  v : VRep wr w2.heap.size a V
  k : Kp L M (normZ V) j T K
  ot : wr.ownsRow w2.heap.size 46 5 tv T.length (cellsJ T)
  ok : wr.ownsRow w2.heap.size 46 5 kv K.length (cellsJ K)
  ap : Ap tv kv
  lt : T.length ≤ K.length
  lk : K.length ≤ j
  mem : ∀ z ∈ K, z ∈ Z
  bw : Below w2.heap.size w2 wr
theorem KSt.below {L M : List ByteArray} {Z : List EZ} {w2 wr w' : World} {a j : Nat} {tv kv : Value} {V : VZ} {T K : List EZ} (h : KSt L M Z w2 wr a j tv kv V T K) (hb : Below wr.heap.size wr w') : KSt L M Z w2 w' a j tv kv V T K :=
  ⟨h.v.below hb, h.k, own_below h.ot hb, own_below h.ok hb, h.ap, h.lt, h.lk, h.mem, bthen h.bw hb⟩
theorem KSt.skip {L M : List ByteArray} {Z : List EZ} {w2 wr : World} {a j : Nat} {tv kv : Value} {V : VZ} {T K : List EZ} (h : KSt L M Z w2 wr a j tv kv V T K) : KSt L M Z w2 wr a (j + 1) tv kv V T K :=
  ⟨h.v, h.k.mono (Nat.le_succ _), h.ot, h.ok, h.ap, h.lt, Nat.le_succ_of_le h.lk, h.mem, h.bw⟩
/-- An act: the vault has turned, the rows have not. -/
structure KMid (L M : List ByteArray) (Z : List EZ) (w2 wr : World) (a : Nat) (j : Nat) (tv kv : Value) (V : VZ) (T K T' K' : List EZ) : Prop where
  v : VRep wr w2.heap.size a V
  k : Kp L M (normZ V) j T' K'
  ot : wr.ownsRow w2.heap.size 46 5 tv T.length (cellsJ T)
  ok : wr.ownsRow w2.heap.size 46 5 kv K.length (cellsJ K)
  ap : Ap tv kv
  bw : Below w2.heap.size w2 wr
theorem KMid.alloc {L M : List ByteArray} {Z : List EZ} {w2 wr w' : World} {a j : Nat} {tv kv : Value} {V : VZ} {T K T' K' : List EZ} (h : KMid L M Z w2 wr a j tv kv V T K T' K') (hb : Below wr.heap.size wr w') : KMid L M Z w2 w' a j tv kv V T K T' K' :=
  ⟨h.v.below hb, h.k, own_below h.ot hb, own_below h.ok hb, h.ap, bthen h.bw hb⟩
theorem KMid.askd {L M : List ByteArray} {Z : List EZ} {w2 wr w' : World} {a j : Nat} {tv kv kv' : Value} {V : VZ} {T K T' K' : List EZ} {z : EZ} (h : KMid L M Z w2 wr a j tv kv V T K T' K') (ho : w'.ownsRow w2.heap.size 46 5 kv' (K.length + 1) (cellsJ K ++ encEnt z)) (hg : wr.grownBy w' kv.ownBlock) (hr : kv'.ownBlock = kv.ownBlock ∨ kv'.ownBlock = some wr.heap.size) :
    KMid L M Z w2 w' a j tv kv' V T (K ++ [z]) T' K' :=
  ⟨h.v.grown h.ok hg, h.k, h.ot.kept hg h.ap, by rw [cellsJ_app, encEnt_cells, List.length_append]; exact ho, h.ap.more h.ot hr, h.bw.grown hg h.bw.size (fun g hg => (h.ok.lt g hg).1)⟩
theorem KMid.tell {L M : List ByteArray} {Z : List EZ} {w2 wr w' : World} {a j : Nat} {tv kv tv' : Value} {V : VZ} {T K T' K' : List EZ} {z : EZ} (h : KMid L M Z w2 wr a j tv kv V T K T' K') (ho : w'.ownsRow w2.heap.size 46 5 tv' (T.length + 1) (cellsJ T ++ encEnt z)) (hg : wr.grownBy w' tv.ownBlock) (hr : tv'.ownBlock = tv.ownBlock ∨ tv'.ownBlock = some wr.heap.size) :
    KMid L M Z w2 w' a j tv' kv V (T ++ [z]) K T' K' :=
  ⟨h.v.grown h.ot hg, h.k, by rw [cellsJ_app, encEnt_cells, List.length_append]; exact ho, h.ok.kept hg h.ap.symm, (h.ap.symm.more h.ok hr).symm, h.bw.grown hg h.bw.size (fun g hg => (h.ot.lt g hg).1)⟩
theorem KSt.act {L M : List ByteArray} {Z : List EZ} {w2 wr w' : World} {a j : Nat} {tv kv : Value} {V V' : VZ} {T K T' K' : List EZ} (h : KSt L M Z w2 wr a j tv kv V T K) (hl : Left wr w' w2.heap.size a V V') (hk : Kp L M (normZ V') (j + 1) T' K') : KMid L M Z w2 w' a (j + 1) tv kv V' T K T' K' :=
  ⟨hl.rep, hk, hl.ents h.v h.ot, hl.ents h.v h.ok, h.ap, h.bw.trans (Left.below' h.v hl h.bw.size)⟩
theorem slice_at (W : World) (D : Option Addr) (n c k : Nat) (hk : k ≤ c) : Sem.run Tryd.prog (Instr.slice 33 (.slice D n c) none (some (.int .i64 (k : Int))) none) W = .ok (.slice D k c) W := by
  have e : Tryd.prog.elem 33 = 46 := by kernel_rfl
  have hs : ∀ W, Sem.run Tryd.prog (Go.sizeOf (Tryd.prog.elem 33)) W = .ok 5 W := fun _ => by kernel_rfl
  rw [run_slice_h W 33 D n c (by rw [e]; exact Tryd.underlying33) .i64 k (by omega) (by omega), hs]
  simp only [Result.andThen, sliced, Int.toNat_natCast]
  have : D.map (·.add (0 * 5)) = D := by
    cases D with
    | none => rfl
    | some a => simp [Addr.add]
  rw [this]
  simp
set_option maxRecDepth 100000 in
set_option maxHeartbeats 32000000 in
theorem kept_walk (A B V0 : Option Addr) (n c m d nl lc : Nat) (L M : List ByteArray) (Z : List EZ) (o1 o2 : Int) (w : World) (hT : Tab w) (hA : Row w A (texts L)) (hB : Row w B (texts M)) (hn : n = L.length) (hm : m = M.length) (hnc : n ≤ c) (hmd : m ≤ d) (ha : A = none → c = 0) (hb : B = none → d = 0)
    (hL : ∀ s ∈ L, s.size ≤ 9223372036854775807) (hM : ∀ s ∈ M, s.size ≤ 9223372036854775807) (hn2 : n ≤ 9223372036854775807) (hm2 : m ≤ 9223372036854775807) (hV : EntsC w V0 Z) (hl : nl = Z.length) (hl2 : nl ≤ 9223372036854775807) (hsz : SizedL Z) (ho1 : -9223372036854775808 ≤ o1 ∧ o1 ≤ 9223372036854775807) (ho2 : -9223372036854775808 ≤ o2 ∧ o2 ≤ 9223372036854775807) :
    Calls Tryd.prog 4 #[.agg #[.slice A n c, .slice B m d], .slice V0 nl lc, .agg #[.int .i64 o1, .int .i64 o2]] w fun e w' => e = .returned (.bool true) ∧ Below w.heap.size w w' := by
  obtain ⟨i0, hi0, hz0, hz1, hz2⟩ := info_parts info46
  obtain ⟨W1, hW1⟩ : ∃ W1, W1 = (w.alloc (.cells #[.slice A n c, .slice B m d] 24)).alloc (.cells #[.int .i64 o1, .int .i64 o2] 39) := ⟨_, rfl⟩
  have hb1 : Below w.heap.size w W1 := by rw [hW1]; exact bpush (bpush (Below.refl _ _) _) _
  have HCC := Lib.hid (fun W (h : Below W1.heap.size W1 W) => show (W.cell? ⟨w.heap.size, 0, none⟩ = some (.slice A n c) ∧ W.cell? ⟨w.heap.size, 1, none⟩ = some (.slice B m d)) ∧ W.cell? ⟨w.heap.size + 1, 0, none⟩ = some (.int .i64 o1) ∧ W.cell? ⟨w.heap.size + 1, 1, none⟩ = some (.int .i64 o2) from by
    rw [hW1] at h
    refine ⟨⟨?_, ?_⟩, ?_, ?_⟩ <;> refine cell_on h ?_
    · exact cell_on (bpush (Below.refl _ _) _) (cell_made rfl rfl)
    · exact cell_on (bpush (Below.refl _ _) _) (cell_made rfl rfl)
    all_goals exact cell_made (by simp) rfl)
  obtain ⟨rf, hrf⟩ := bool_of (FitsJ L M Z)
  have HFIT := Lib.hid (fitsj_any A B V0 n c m d nl lc L M Z W1 (hA.keep (Nat.le_refl _) hb1) (hB.keep (Nat.le_refl _) hb1) (hV.keep (Nat.le_refl _) hb1) hn hm hl hnc hmd ha hb hL hM hn2 hm2 hl2 hsz rf hrf)
  have HT := Lib.hid (hT.keep hb1)
  have HN := Lib.hid hn
  have HM := Lib.hid hm
  have HL := Lib.hid hl
  have HRF := Lib.hid hrf
  have HENT1 := Lib.hid (hV.keep (Nat.le_refl _) hb1)
  have HSZ := Lib.hid hsz
  have HW1 := Lib.hid hW1
  have HBW1 := Lib.hid hb1
  clear hT hA hB hn hm hl hnc hmd ha hb hL hM hn2 hm2 hV hsz hW1 hb1 hrf
  go_enter Tryd.func4, Tryd.ntmps4
  go_upto_region 1 with fail
  rw [← HW1.out]
  clear HW1
  obtain ⟨⟨q0, q1⟩, p0, p1⟩ := HCC.out W1 (Below.refl _ _)
  go_wp2_with fail
  refine HFIT.out.mono ?_
  rintro e w2 ⟨rfl, hb2⟩
  have HBV := Lib.hid hb2
  clear hb2 q0 q1 p0 p1
  go_wp2_with fail
  refine (newG_any 16777216 w2 (by omega)).mono ?_
  rintro e w3 ⟨vb, a, rfl, hv3, hb3⟩
  have HV3 := Lib.hid hv3
  have HB3 := Lib.hid hb3
  clear hv3 hb3
  cases rf with
  | false =>
    have HAL := Lib.hid (alive_any w3 (HT.out.keep (bthen HBV.out HB3.out)))
    go_wp2_with (go_at_call 8; refine HAL.out.mono ?_; rintro e w4 ⟨rfl, hb4⟩)
    go_ret
    exact ⟨rfl, bthen HBW1.out (bthen HBV.out (bthen HB3.out hb4))⟩
  | true =>
    have hf := HRF.out.1 rfl
    have hn20 : n ≤ 20 ∧ m ≤ 20 := ⟨by rw [HN.out]; exact hf.l.1, by rw [HM.out]; exact hf.m.1⟩
    obtain ⟨hn20, hm20⟩ := hn20
    have hl40 : nl ≤ 40 := by rw [HL.out]; exact hf.n
    have HENT := Lib.hid (show EntsC w2 V0 Z from HENT1.out.keep (Nat.le_refl _) HBV.out)
    clear hf HENT1 HFIT HRF
    have HKP := Lib.hid (show ∀ (V4 : VZ), V4.F = [] → V4.room = 16777216 → Kp L M (normZ V4) 0 [] [] from fun V4 h1 h2 => Kp.start (by show V4.F.map normF = []; rw [h1]; rfl) h2)
    obtain ⟨⟨q0, q1⟩, p0, p1⟩ := HCC.out w3 (bthen HBV.out HB3.out)
    go_upto_region 5 with fail
    by_cases h1 : 0 ≤ o1
    · have d1 : decide ((0 : Int) ≤ o1) = true := by simp; omega
      by_cases h2 : o1 ≤ 100
      · have d2 : decide (o1 ≤ (100 : Int)) = true := by simp; omega
        have HAR := Lib.hid (arm_any a (newZ 16777216 vb) o1 w3 HV3.out.core ho1.2)
        have HO1 := Lib.hid h1
        clear h2
        go_wp2_with fail
        refine HAR.out.mono ?_
        rintro e w4 (⟨h3, _, _⟩ | ⟨kf, hkf, rfl, hc4, hf4⟩)
        · exact absurd HO1.out (by omega)
        obtain ⟨V4, hV4⟩ : ∃ V4, V4 = armZ (newZ 16777216 vb) kf := ⟨_, rfl⟩
        rw [← hV4] at hc4
        have hlf : Left w3 w4 w2.heap.size a (newZ 16777216 vb) V4 := Left.turn HV3.out hc4 hf4 (by rw [hV4]; rfl) (by rw [hV4]; rfl) (by rw [hV4]; rfl)
        have HST0 := Lib.hid (show KSt L M Z w2 w4 a 0 (.slice none 0 0) (.slice none 0 0) V4 [] [] from ⟨hlf.rep, HKP.out V4 (by rw [hV4]; rfl) (by rw [hV4]; rfl), World.ownsRow_nil _ _ _ _, World.ownsRow_nil _ _ _ _, .inl rfl, Nat.le_refl _, Nat.le_refl _, (fun z hz => by cases hz), HB3.out.trans (Left.below' HV3.out hlf HB3.out.size)⟩)
        clear hkf hc4 hf4 hV4 hlf d1 d2 h1 q0 q1 p0 p1 HAR
        go_wp2_with fail
        go_loopw [10, 11, 12] (fun tv kv i wr => ∃ (k : Nat) (V : VZ) (T K : List EZ), k ≤ nl ∧ i = .int .i64 k ∧ Hid (KSt L M Z w2 wr a k tv kv V T K)) (fun _ _ i _ => nl - (intOf i).toNat)
        case atStart => exact ⟨0, V4, [], [], Nat.zero_le _, rfl, HST0⟩
        case round =>
          clear HST0
          obtain ⟨k, V, T, K, hk, rfl, HST⟩ := hrel
          by_cases hlt : k < nl
          · have hkz : k < Z.length := by have := HL.out; omega
            have hki : (k : Int) < (nl : Int) := by omega
            have hk0 : (0 : Int) ≤ (k : Int) := by omega
            obtain ⟨b, off, hAe, -⟩ := HENT.out.at hkz
            subst hAe
            obtain ⟨z, hz⟩ : ∃ z, z = Z[k] := ⟨_, rfl⟩
            have HZC := Lib.hid (fun W (h : Below w2.heap.size w2 W) => show W.cell? ⟨b, off + k * 5, none⟩ = some (.bool z.tick) ∧ W.cell? ⟨b, off + k * 5 + 1, none⟩ = some (.int .i64 z.now) ∧ W.cell? ⟨b, off + k * 5 + 2, none⟩ = some (.int .i64 z.ev.t) ∧ W.cell? ⟨b, off + k * 5 + 3, none⟩ = some (.slice z.ev.E z.ev.p z.ev.q) ∧ W.cell? ⟨b, off + k * 5 + 4, none⟩ = some (.slice z.ev.F z.ev.x z.ev.y) from by rw [hz]; exact (HENT.out.keep (Nat.le_refl _) h).cells hkz)
            have hzm : z ∈ Z := by rw [hz]; exact List.getElem_mem _
            have HEV := Lib.hid (fun W (h : Below w2.heap.size w2 W) => show EvG W z.ev from (HENT.out.good z hzm).keep (Nat.le_refl _) h)
            have HSZ2 := Lib.hid (HSZ.out z hzm)
            have HZM := Lib.hid hzm
            clear hz hzm hkz
            obtain ⟨r, hr⟩ := bool_of (rightJ L M z)
            have HR := Lib.hid hr
            have HRC := Lib.hid (refjright_any A B n c m d L M z wr.drew (HEV.out _ (bthen HST.out.bw (below_drewN (Below.refl _ _) 1))) HN.out HM.out HSZ2.out.1 HSZ2.out.2 r hr)
            clear hr
            go_upto_region 11 with fail
            refine wp_region_held_drew (S := fun W => Below wr.heap.size wr W) (by kernel_rfl) (below_drewN (Below.refl _ _) 1) ?_
            intro hHeld
            refine take_want (i := 0) (v := ?v0k1) rfl (by kernel_rfl) (by kernel_rfl) (by kernel_rfl) (fun _ _ _ h => h) (by rfl) ?y0k1 (by assumption) ?r0k1
            case y0k1 => (intro w hSw; obtain ⟨⟨q0, q1⟩, _⟩ := HCC.out w (HBV.out.trans ((HST.out.bw.trans (hSw.mono HST.out.bw.size)).mono HBV.out.size)); go_simp; all_goals with_reducible rfl)
            (try simp only [Act.put, List.setIfInBounds_toArray, List.set_cons_zero, List.set_cons_succ])
            refine take_want (i := 1) (v := ?v1k2) rfl (by kernel_rfl) (by kernel_rfl) (by kernel_rfl) (fun _ _ _ h => h) (by rfl) ?y1k2 (by assumption) ?r1k2
            case y1k2 => (intro w hSw; go_simp; all_goals with_reducible rfl)
            (try simp only [Act.put, List.setIfInBounds_toArray, List.set_cons_zero, List.set_cons_succ])
            refine take_want (i := 2) (v := ?v2k3) rfl (by kernel_rfl) (by kernel_rfl) (by kernel_rfl) (fun _ _ _ h => h) (by rfl) ?y2k3 (by assumption) ?r2k3
            case y2k3 => (intro w hSw; go_simp; all_goals with_reducible rfl)
            (try simp only [Act.put, List.setIfInBounds_toArray, List.set_cons_zero, List.set_cons_succ])
            refine take_want (i := 3) (v := ?v3k4) rfl (by kernel_rfl) (by kernel_rfl) (by kernel_rfl) (fun _ _ _ h => h) (by rfl) ?y3k4 (by assumption) ?r3k4
            case y3k4 => (intro w hSw; go_simp; all_goals with_reducible rfl)
            (try simp only [Act.put, List.setIfInBounds_toArray, List.set_cons_zero, List.set_cons_succ])
            refine take_want (i := 4) (v := ?v4k5) rfl (by kernel_rfl) (by kernel_rfl) (by kernel_rfl) (fun _ _ _ h => h) (by rfl) ?y4k5 (by assumption) ?r4k5
            case y4k5 => (intro w hSw; obtain ⟨c0, c1, c2, c3, c4⟩ := HZC.out w (HST.out.bw.trans (hSw.mono HST.out.bw.size)); go_simp; all_goals with_reducible rfl)
            (try simp only [Act.put, List.setIfInBounds_toArray, List.set_cons_zero, List.set_cons_succ])
            refine wpAnyH_ready (rs := [5]) (by kernel_rfl) (by simp) ?_
            refine AllReadyH.cons rfl (fun K hK => ?_) AllReadyH.nil
            go_simp
            (go_at_call 15; refine HRC.out.mono ?_; rintro e w5 ⟨rfl, hb5⟩)
            have HB5 := Lib.hid (show Below wr.heap.size wr w5 from bthen hHeld hb5)
            refine hK.out _ _ HB5.out (fun hHeld => ?_)
            clear hK K
            (try simp only [Act.put, List.setIfInBounds_toArray, List.set_cons_zero, List.set_cons_succ])
            refine take_want (i := 6) (v := ?v6k6) rfl (by kernel_rfl) (by kernel_rfl) (by kernel_rfl) (fun _ _ _ h => h) (by rfl) ?y6k6 (by assumption) ?r6k6
            case y6k6 => (intro w hSw; go_simp; all_goals with_reducible rfl)
            (try simp only [Act.put, List.setIfInBounds_toArray, List.set_cons_zero, List.set_cons_succ])
            refine wpAnyH_done (by kernel_rfl) ?_ _
            clear hb5 hHeld
            have HST5 := Lib.hid (HST.out.below HB5.out)
            have HST5d := Lib.hid (HST5.out.below (below_drewN (Below.refl _ _) 1))
            have HJA := Lib.hid (jappend_any w2.heap.size a V aN A B n c m d L M z w5.drew (HT.out.keep (HBV.out.trans (HST5d.out.bw.mono HBV.out.size))) HST5d.out.v (by decide) (HEV.out _ HST5d.out.bw) HN.out HM.out (by omega) (by omega) HSZ2.out.1 HSZ2.out.2)
            clear HRC
            go_upto_region 12 with fail
            refine wp_region_held_drew (S := fun W => Below w2.heap.size w5 W) (by kernel_rfl) (below_drewN (Below.refl _ _) 1) ?_
            intro hHeld
            refine take_want (i := 0) (v := ?v0k7) rfl (by kernel_rfl) (by kernel_rfl) (by kernel_rfl) (fun _ _ _ h => h) (by rfl) ?y0k7 (by assumption) ?r0k7
            case y0k7 => (intro w hSw; go_simp; all_goals with_reducible rfl)
            (try simp only [Act.put, List.setIfInBounds_toArray, List.set_cons_zero, List.set_cons_succ])
            refine take_want (i := 1) (v := ?v1k8) rfl (by kernel_rfl) (by kernel_rfl) (by kernel_rfl) (fun _ _ _ h => h) (by rfl) ?y1k8 (by assumption) ?r1k8
            case y1k8 => (intro w hSw; obtain ⟨⟨q0, q1⟩, _⟩ := HCC.out w (HBV.out.trans ((HST5.out.bw.trans hSw).mono HBV.out.size)); go_simp; all_goals with_reducible rfl)
            (try simp only [Act.put, List.setIfInBounds_toArray, List.set_cons_zero, List.set_cons_succ])
            refine take_want (i := 2) (v := ?v2k9) rfl (by kernel_rfl) (by kernel_rfl) (by kernel_rfl) (fun _ _ _ h => h) (by rfl) ?y2k9 (by assumption) ?r2k9
            case y2k9 => (intro w hSw; go_simp; all_goals with_reducible rfl)
            (try simp only [Act.put, List.setIfInBounds_toArray, List.set_cons_zero, List.set_cons_succ])
            refine take_want (i := 3) (v := ?v3k10) rfl (by kernel_rfl) (by kernel_rfl) (by kernel_rfl) (fun _ _ _ h => h) (by rfl) ?y3k10 (by assumption) ?r3k10
            case y3k10 => (intro w hSw; go_simp; all_goals with_reducible rfl)
            (try simp only [Act.put, List.setIfInBounds_toArray, List.set_cons_zero, List.set_cons_succ])
            refine take_want (i := 4) (v := ?v4k11) rfl (by kernel_rfl) (by kernel_rfl) (by kernel_rfl) (fun _ _ _ h => h) (by rfl) ?y4k11 (by assumption) ?r4k11
            case y4k11 => (intro w hSw; go_simp; all_goals with_reducible rfl)
            (try simp only [Act.put, List.setIfInBounds_toArray, List.set_cons_zero, List.set_cons_succ])
            refine take_want (i := 5) (v := ?v5k12) rfl (by kernel_rfl) (by kernel_rfl) (by kernel_rfl) (fun _ _ _ h => h) (by rfl) ?y5k12 (by assumption) ?r5k12
            case y5k12 => (intro w hSw; obtain ⟨c0, c1, c2, c3, c4⟩ := HZC.out w (HST5.out.bw.trans hSw); go_simp; all_goals with_reducible rfl)
            (try simp only [Act.put, List.setIfInBounds_toArray, List.set_cons_zero, List.set_cons_succ])
            refine wpAnyH_ready (rs := [6]) (by kernel_rfl) (by simp) ?_
            refine AllReadyH.cons rfl (fun K hK => ?_) AllReadyH.nil
            go_simp
            (go_at_call 16; refine HJA.out.mono ?_; rintro e w6 hJ6)
            rcases hJ6 with ⟨hnr, rfl, hb6⟩ | ⟨hrj, V', rfl, hV', hL6⟩
            · have HST6 := Lib.hid (HST5d.out.below hb6)
              have HB56 := Lib.hid (show Below w2.heap.size w5 w6 from (hHeld.trans (hb6.mono (by have h1 := hHeld.size; have h2 := HST5.out.bw.size; omega))))
              refine hK.out _ _ HB56.out (fun hHeld => ?_)
              clear hK K
              (try simp only [Act.put, List.setIfInBounds_toArray, List.set_cons_zero, List.set_cons_succ])
              refine take_want (i := 7) (v := ?v7k13) rfl (by kernel_rfl) (by kernel_rfl) (by kernel_rfl) (fun _ _ _ h => h) (by rfl) ?y7k13 (by assumption) ?r7k13
              case y7k13 => (intro w hSw; go_simp; all_goals with_reducible rfl)
              (try simp only [Act.put, List.setIfInBounds_toArray, List.set_cons_zero, List.set_cons_succ])
              refine wpAnyH_done (by kernel_rfl) ?_ _
              obtain rfl : r = false := by
                rw [Bool.eq_false_iff]
                intro h
                exact hnr (HR.out.1 h)
              clear hnr hb6 hHeld
              go_wp2_with fail
              go_roundw
              case rel => exact ⟨k + 1, V, T, K, by omega, by go_num, Lib.hid HST6.out.skip⟩
              case measure => simp [intOf]; omega
            · obtain ⟨X, hX⟩ : ∃ X, X = jappS (normZ V) aN (blockL (encJ z)) := ⟨_, rfl⟩
              rw [← hX] at hV' ⊢
              obtain rfl : r = true := HR.out.2 hrj
              have hstep := HST.out.k.step (by omega) (by have := HN.out; omega) (by have := HM.out; omega) hrj X hX
              rw [← hV'] at hstep
              have HL6 := Lib.hid hL6
              have HTK := Lib.hid (And.intro HST.out.lt HST.out.lk)
              have htk := HTK.out
              have HB56 := Lib.hid (show Below w2.heap.size w5 w6 from hHeld.trans (Left.below' HST5d.out.v hL6 HST5d.out.bw.size))
              clear hX hL6 hV' hrj
              rcases hstep with ⟨e0, hk⟩ | ⟨e0, hbrk, hk⟩
              · have HM6 := Lib.hid (HST5d.out.act HL6.out hk)
                refine hK.out _ _ HB56.out (fun hHeld => ?_)
                clear hK K
                (try simp only [Act.put, List.setIfInBounds_toArray, List.set_cons_zero, List.set_cons_succ])
                refine take_want (i := 7) (v := ?v7k14) rfl (by kernel_rfl) (by kernel_rfl) (by kernel_rfl) (fun _ _ _ h => h) (by rfl) ?y7k14 (by assumption) ?r7k14
                case y7k14 => (intro w hSw; go_simp; all_goals with_reducible rfl)
                (try simp only [Act.put, List.setIfInBounds_toArray, List.set_cons_zero, List.set_cons_succ])
                refine wpAnyH_done (by kernel_rfl) ?_ _
                rw [e0]
                clear e0 hk hHeld
                obtain ⟨c0, c1, c2, c3, c4⟩ := HZC.out w6 HM6.out.bw
                have hs6 : w2.heap.size ≤ w6.heap.size := HM6.out.bw.size
                go_wp2_with (at_builtin; refine wpList_append_own_at _ rfl _ _ 33 rfl w2.heap.size 46 i0 (.agg #[.bool false, .int .i64 0, .int .i64 0, .slice none 0 0, .slice none 0 0]) 5 72 Tryd.underlying33 hi0 hz0 hz1 hz2 rfl (by decide) _ _ _ rfl (HM6.out.ok.alloc _) ⟨w6.heap.size, 0, none⟩ 1 1 (encEnt z) rfl rfl ?c1 ?c2 ?c3 ?c4 ?c5 ?_)
                case c1 => first | exact ent_new1 w6 z _ | exact (fun j u h => by simpa [encEnt] using h)
                case c2 => exact one_encEnt _
                case c3 => unfold maxLen; omega
                case c4 => omega
                case c5 => (first | (simp; omega) | omega)
                intro kv' w7 hown' hgrow _ hblk
                have HM7 := Lib.hid ((HM6.out.alloc (bpush (Below.refl _ _) _)).askd hown' hgrow (hblk.imp id fun h => by rw [h]; simp))
                clear hown' hgrow hblk c0 c1 c2 c3 c4
                obtain ⟨c0, c1, c2, c3, c4⟩ := HZC.out w7 HM7.out.bw
                have hs7 : w2.heap.size ≤ w7.heap.size := HM7.out.bw.size
                go_wp2_with (at_builtin; refine wpList_append_own_at _ rfl _ _ 33 rfl w2.heap.size 46 i0 (.agg #[.bool false, .int .i64 0, .int .i64 0, .slice none 0 0, .slice none 0 0]) 5 72 Tryd.underlying33 hi0 hz0 hz1 hz2 rfl (by decide) _ _ _ rfl (HM7.out.ot.alloc _) ⟨w7.heap.size, 0, none⟩ 1 1 (encEnt z) rfl rfl ?c1 ?c2 ?c3 ?c4 ?c5 ?_)
                case c1 => first | exact ent_new1 w7 z _ | exact (fun j u h => by simpa [encEnt] using h)
                case c2 => exact one_encEnt _
                case c3 => unfold maxLen; omega
                case c4 => omega
                case c5 => (first | (simp; omega) | omega)
                intro tv' w8 hown' hgrow _ hblk
                have HM8 := Lib.hid ((HM7.out.alloc (bpush (Below.refl _ _) _)).tell hown' hgrow (hblk.imp id fun h => by rw [h]; simp))
                have HFIN := Lib.hid (show KSt L M Z w2 w8 a (k + 1) tv' kv' V' (T ++ [z]) (K ++ [z]) from ⟨HM8.out.v, HM8.out.k, HM8.out.ot, HM8.out.ok, HM8.out.ap, by rw [List.length_append, List.length_append]; have := HTK.out.1; omega, by rw [List.length_append]; have := HTK.out.2; simp; omega, fun y hy => (List.mem_append.1 hy).elim (HST.out.mem y) (fun h => by rw [List.mem_singleton.1 h]; exact HZM.out), HM8.out.bw⟩)
                clear hown' hgrow hblk c0 c1 c2 c3 c4
                go_wp2_with fail
                go_roundw
                case rel => exact ⟨k + 1, V', _, _, by omega, by go_num, HFIN⟩
                case measure => simp [intOf]; omega
              · have HM6 := Lib.hid (HST5d.out.act HL6.out hk)
                refine hK.out _ _ HB56.out (fun hHeld => ?_)
                clear hK K
                (try simp only [Act.put, List.setIfInBounds_toArray, List.set_cons_zero, List.set_cons_succ])
                refine take_want (i := 7) (v := ?v7k15) rfl (by kernel_rfl) (by kernel_rfl) (by kernel_rfl) (fun _ _ _ h => h) (by rfl) ?y7k15 (by assumption) ?r7k15
                case y7k15 => (intro w hSw; go_simp; all_goals with_reducible rfl)
                (try simp only [Act.put, List.setIfInBounds_toArray, List.set_cons_zero, List.set_cons_succ])
                refine wpAnyH_done (by kernel_rfl) ?_ _
                rw [e0]
                clear e0 hk hHeld
                obtain ⟨c0, c1, c2, c3, c4⟩ := HZC.out w6 HM6.out.bw
                have hs6 : w2.heap.size ≤ w6.heap.size := HM6.out.bw.size
                go_wp2_with (at_builtin; refine wpList_append_own_at _ rfl _ _ 33 rfl w2.heap.size 46 i0 (.agg #[.bool false, .int .i64 0, .int .i64 0, .slice none 0 0, .slice none 0 0]) 5 72 Tryd.underlying33 hi0 hz0 hz1 hz2 rfl (by decide) _ _ _ rfl (HM6.out.ok.alloc _) ⟨w6.heap.size, 0, none⟩ 1 1 (encEnt z) rfl rfl ?c1 ?c2 ?c3 ?c4 ?c5 ?_)
                case c1 => first | exact ent_new1 w6 z _ | exact (fun j u h => by simpa [encEnt] using h)
                case c2 => exact one_encEnt _
                case c3 => unfold maxLen; omega
                case c4 => omega
                case c5 => (first | (simp; omega) | omega)
                intro kv' w7 hown' hgrow _ hblk
                have HM7 := Lib.hid ((HM6.out.alloc (bpush (Below.refl _ _) _)).askd hown' hgrow (hblk.imp id fun h => by rw [h]; simp))
                clear hown' hgrow hblk c0 c1 c2 c3 c4
                have HBRK := Lib.hid (broken_any a V' w7 HM7.out.v.core)
                rw [show brkZ V' = true from hbrk] at HBRK
                have HFIN := Lib.hid (show KSt L M Z w2 w7 a (k + 1) u10 kv' V' T (K ++ [z]) from ⟨HM7.out.v, HM7.out.k, HM7.out.ot, HM7.out.ok, HM7.out.ap, by rw [List.length_append]; have := HTK.out.1; omega, by rw [List.length_append]; have := HTK.out.2; simp; omega, fun y hy => (List.mem_append.1 hy).elim (HST.out.mem y) (fun h => by rw [List.mem_singleton.1 h]; exact HZM.out), HM7.out.bw⟩)
                clear hbrk
                go_wp2_with (go_at_call 17; refine HBRK.out.mono ?_; rintro e w9 ⟨rfl, rfl⟩)
                go_roundw
                case rel => exact ⟨k + 1, V', T, _, by omega, by go_num, HFIN⟩
                case measure => simp [intOf]; omega
          · obtain rfl : k = nl := by omega
            have hge : ¬ (k : Int) < (k : Int) := by omega
            have HK0 := Lib.hid (HST.out.k.crash (by have := HN.out; omega) (by have := HM.out; omega) HST.out.v.safe_norm o2)
            have hcl := HST.out.k.cnt_len (by have := HN.out; omega) (by have := HM.out; omega) HST.out.v.safe_norm (by have := HST.out.lk; omega) o2
            have HCR := Lib.hid (crash_any w2.heap.size a V o2 wr HST.out.v ho2.1 ho2.2)
            obtain ⟨⟨q0, q1⟩, p0, p1⟩ := HCC.out wr (HBV.out.trans (HST.out.bw.mono HBV.out.size))
            clear hlt
            go_wp2_with fail
            refine HCR.out.mono ?_
            rintro e w6 ⟨a2, V2, rfl, hV2, hv2, hb6⟩
            clear q0 q1 p0 p1 hge
            obtain ⟨bs, hbs⟩ : ∃ bs, bs = cntZ (crashS o2 (normZ V)) aN := ⟨_, rfl⟩
            rw [← hbs] at hcl
            rw [← hbs] at HK0
            have HBS := Lib.hid (show bs = (lkF V2.F aN).bs from by rw [hbs, ← hV2, cnt_norm])
            have HST6 := Lib.hid (HST.out.below hb6)
            have HRD := Lib.hid (jread_any wr.heap.size a2 V2 aN A B n c m d L M w6 (HT.out.keep (HBV.out.trans (HST6.out.bw.mono HBV.out.size))) hv2 (by decide) HN.out HM.out (by omega) (by omega) bs HBS.out (by omega))
            obtain ⟨⟨q0, q1⟩, p0, p1⟩ := HCC.out w6 (HBV.out.trans (HST6.out.bw.mono HBV.out.size))
            clear hbs hcl hV2 hv2 hb6 HCR
            go_wp2_with fail
            refine HRD.out.mono ?_
            rintro e w7 ⟨A7, c7, Z7, k7, rfl, hZ7, hlc7, hnil7, hrun7, hkb7, hb7⟩
            clear q0 q1 p0 p1 HRD
            obtain ⟨Y, hrunY, hy1, hy2, hy3, hy4⟩ := HK0.out
            obtain ⟨hsame, _⟩ := hrun7.one hrunY
            have hlY := hsame.len
            obtain ⟨ly, hly⟩ : ∃ ly, ly = Z7.length := ⟨_, rfl⟩
            rw [← hly] at hlY ⊢
            rw [← hlY] at hy1 hy2 hy3 hy4
            have HST7 := Lib.hid (HST6.out.below hb7)
            obtain ⟨At, ct, htv, _, _, _⟩ := own_slice5 HST7.out.ot
            obtain ⟨Ak, ck, hkv, hrk, hck, hnk⟩ := own_slice5 HST7.out.ok
            have HEK := Lib.hid (show EntsC w7 Ak K from ⟨hrk, fun z hz => (HENT.out.good z (HST.out.mem z hz)).keep (Nat.le_refl _) HST7.out.bw⟩)
            obtain ⟨lt, hlt⟩ : ∃ lt, lt = T.length := ⟨_, rfl⟩
            obtain ⟨lk, hlk⟩ : ∃ lk, lk = K.length := ⟨_, rfl⟩
            rw [← hlt] at hy1 hy2 htv
            rw [← hlk] at hy3 hkv hck
            have hlk40 : lk ≤ 40 := by have := HST.out.lk; omega
            obtain ⟨E, hsl, hE⟩ : ∃ E, (∀ W, Sem.run Tryd.prog (Instr.slice 33 (.slice Ak lk ck) none (some (.int .i64 (ly : Int))) none) W = .ok (.slice E ly ck) W) ∧ ∀ W (Z : List EZ), EntsC W Ak Z → EntsC W E Z := by
              refine ⟨Ak, fun W => ?_, fun W Z h => h⟩
              obtain ⟨E, h1, _⟩ := slice_ents W Ak lk ck ly (by omega) hnk
              have h2 := slice_at W Ak lk ck ly (by omega)
              exact h2
            have HAL := Lib.hid (fun W (h : Below w7.heap.size w7 W) => alive_any W (HT.out.keep (HBV.out.trans ((bthen HST7.out.bw h).mono HBV.out.size))))
            have HSM := Lib.hid (fun W (h : Below w7.heap.size w7 W) => samel_any A7 E ly c7 ly ck Z7 (K.take ly) W (hZ7.keep (Nat.le_refl _) h) ((hE W _ ((HEK.out.keep (Nat.le_refl _) h).upto ly))) hly (by rw [List.length_take]; omega) (by omega) (by omega) (hZ7.sized hrun7.1.right (by have := HN.out; omega) (by have := HM.out; omega)) (fun z hz => HSZ.out z (HST.out.mem z (List.mem_of_mem_take hz))) true (by simp only [true_iff]; rw [← hy4]; exact hsame))
            have HB7 := Lib.hid (show Below W1.heap.size W1 w7 from HBV.out.trans (HST7.out.bw.mono HBV.out.size))
            have hn1 : ¬ (ly : Int) < (lt : Int) := by omega
            have hn2' : ¬ (lt : Int) + 1 < (ly : Int) := by omega
            have hn3 : ¬ (lk : Int) < (ly : Int) := by omega
            have hy0 : (0 : Int) ≤ (ly : Int) := by omega
            rw [htv, hkv]
            clear hZ7 hlc7 hnil7 hrun7 hkb7 hb7 hrunY hy4 hsame hlY hly hrk hE hlt hlk htv hkv HK0
            go_upto_region 25 with fail
            clear hn1 hn2' hn3
            go_wp2_with fail
            refine (HAL.out _ (by first | exact Below.refl _ _ | exact below_drewN (Below.refl _ _) 1)).mono ?_
            rintro e w8 ⟨rfl, hb8⟩
            have HB8 := Lib.hid hb8
            clear hb8
            go_wp2_with fail
            refine (HSM.out _ HB8.out).mono ?_
            rintro e w9 ⟨rfl, hb9⟩
            have HB9 := Lib.hid hb9
            clear hb9
            go_wp2_with fail
            go_ret
            exact ⟨rfl, bthen HBW1.out (bthen HB7.out (bthen HB8.out HB9.out))⟩
      · have d2 : decide (o1 ≤ (100 : Int)) = false := by simp; omega
        obtain ⟨V4, hV4⟩ : ∃ V4, V4 = newZ 16777216 vb := ⟨_, rfl⟩
        have HST0 := Lib.hid (show KSt L M Z w2 w3 a 0 (.slice none 0 0) (.slice none 0 0) V4 [] [] from ⟨by rw [hV4]; exact HV3.out, HKP.out V4 (by rw [hV4]; rfl) (by rw [hV4]; rfl), World.ownsRow_nil _ _ _ _, World.ownsRow_nil _ _ _ _, .inl rfl, Nat.le_refl _, Nat.le_refl _, (fun z hz => by cases hz), HB3.out⟩)
        clear hV4 h1 h2
        go_wp2_with fail
        clear d1 d2 q0 q1 p0 p1
        go_loopw [10, 11, 12] (fun tv kv i wr => ∃ (k : Nat) (V : VZ) (T K : List EZ), k ≤ nl ∧ i = .int .i64 k ∧ Hid (KSt L M Z w2 wr a k tv kv V T K)) (fun _ _ i _ => nl - (intOf i).toNat)
        case atStart => exact ⟨0, V4, [], [], Nat.zero_le _, rfl, HST0⟩
        case round =>
          clear HST0
          obtain ⟨k, V, T, K, hk, rfl, HST⟩ := hrel
          by_cases hlt : k < nl
          · have hkz : k < Z.length := by have := HL.out; omega
            have hki : (k : Int) < (nl : Int) := by omega
            have hk0 : (0 : Int) ≤ (k : Int) := by omega
            obtain ⟨b, off, hAe, -⟩ := HENT.out.at hkz
            subst hAe
            obtain ⟨z, hz⟩ : ∃ z, z = Z[k] := ⟨_, rfl⟩
            have HZC := Lib.hid (fun W (h : Below w2.heap.size w2 W) => show W.cell? ⟨b, off + k * 5, none⟩ = some (.bool z.tick) ∧ W.cell? ⟨b, off + k * 5 + 1, none⟩ = some (.int .i64 z.now) ∧ W.cell? ⟨b, off + k * 5 + 2, none⟩ = some (.int .i64 z.ev.t) ∧ W.cell? ⟨b, off + k * 5 + 3, none⟩ = some (.slice z.ev.E z.ev.p z.ev.q) ∧ W.cell? ⟨b, off + k * 5 + 4, none⟩ = some (.slice z.ev.F z.ev.x z.ev.y) from by rw [hz]; exact (HENT.out.keep (Nat.le_refl _) h).cells hkz)
            have hzm : z ∈ Z := by rw [hz]; exact List.getElem_mem _
            have HEV := Lib.hid (fun W (h : Below w2.heap.size w2 W) => show EvG W z.ev from (HENT.out.good z hzm).keep (Nat.le_refl _) h)
            have HSZ2 := Lib.hid (HSZ.out z hzm)
            have HZM := Lib.hid hzm
            clear hz hzm hkz
            obtain ⟨r, hr⟩ := bool_of (rightJ L M z)
            have HR := Lib.hid hr
            have HRC := Lib.hid (refjright_any A B n c m d L M z wr.drew (HEV.out _ (bthen HST.out.bw (below_drewN (Below.refl _ _) 1))) HN.out HM.out HSZ2.out.1 HSZ2.out.2 r hr)
            clear hr
            go_upto_region 11 with fail
            refine wp_region_held_drew (S := fun W => Below wr.heap.size wr W) (by kernel_rfl) (below_drewN (Below.refl _ _) 1) ?_
            intro hHeld
            refine take_want (i := 0) (v := ?v0k16) rfl (by kernel_rfl) (by kernel_rfl) (by kernel_rfl) (fun _ _ _ h => h) (by rfl) ?y0k16 (by assumption) ?r0k16
            case y0k16 => (intro w hSw; obtain ⟨⟨q0, q1⟩, _⟩ := HCC.out w (HBV.out.trans ((HST.out.bw.trans (hSw.mono HST.out.bw.size)).mono HBV.out.size)); go_simp; all_goals with_reducible rfl)
            (try simp only [Act.put, List.setIfInBounds_toArray, List.set_cons_zero, List.set_cons_succ])
            refine take_want (i := 1) (v := ?v1k17) rfl (by kernel_rfl) (by kernel_rfl) (by kernel_rfl) (fun _ _ _ h => h) (by rfl) ?y1k17 (by assumption) ?r1k17
            case y1k17 => (intro w hSw; go_simp; all_goals with_reducible rfl)
            (try simp only [Act.put, List.setIfInBounds_toArray, List.set_cons_zero, List.set_cons_succ])
            refine take_want (i := 2) (v := ?v2k18) rfl (by kernel_rfl) (by kernel_rfl) (by kernel_rfl) (fun _ _ _ h => h) (by rfl) ?y2k18 (by assumption) ?r2k18
            case y2k18 => (intro w hSw; go_simp; all_goals with_reducible rfl)
            (try simp only [Act.put, List.setIfInBounds_toArray, List.set_cons_zero, List.set_cons_succ])
            refine take_want (i := 3) (v := ?v3k19) rfl (by kernel_rfl) (by kernel_rfl) (by kernel_rfl) (fun _ _ _ h => h) (by rfl) ?y3k19 (by assumption) ?r3k19
            case y3k19 => (intro w hSw; go_simp; all_goals with_reducible rfl)
            (try simp only [Act.put, List.setIfInBounds_toArray, List.set_cons_zero, List.set_cons_succ])
            refine take_want (i := 4) (v := ?v4k20) rfl (by kernel_rfl) (by kernel_rfl) (by kernel_rfl) (fun _ _ _ h => h) (by rfl) ?y4k20 (by assumption) ?r4k20
            case y4k20 => (intro w hSw; obtain ⟨c0, c1, c2, c3, c4⟩ := HZC.out w (HST.out.bw.trans (hSw.mono HST.out.bw.size)); go_simp; all_goals with_reducible rfl)
            (try simp only [Act.put, List.setIfInBounds_toArray, List.set_cons_zero, List.set_cons_succ])
            refine wpAnyH_ready (rs := [5]) (by kernel_rfl) (by simp) ?_
            refine AllReadyH.cons rfl (fun K hK => ?_) AllReadyH.nil
            go_simp
            (go_at_call 15; refine HRC.out.mono ?_; rintro e w5 ⟨rfl, hb5⟩)
            have HB5 := Lib.hid (show Below wr.heap.size wr w5 from bthen hHeld hb5)
            refine hK.out _ _ HB5.out (fun hHeld => ?_)
            clear hK K
            (try simp only [Act.put, List.setIfInBounds_toArray, List.set_cons_zero, List.set_cons_succ])
            refine take_want (i := 6) (v := ?v6k21) rfl (by kernel_rfl) (by kernel_rfl) (by kernel_rfl) (fun _ _ _ h => h) (by rfl) ?y6k21 (by assumption) ?r6k21
            case y6k21 => (intro w hSw; go_simp; all_goals with_reducible rfl)
            (try simp only [Act.put, List.setIfInBounds_toArray, List.set_cons_zero, List.set_cons_succ])
            refine wpAnyH_done (by kernel_rfl) ?_ _
            clear hb5 hHeld
            have HST5 := Lib.hid (HST.out.below HB5.out)
            have HST5d := Lib.hid (HST5.out.below (below_drewN (Below.refl _ _) 1))
            have HJA := Lib.hid (jappend_any w2.heap.size a V aN A B n c m d L M z w5.drew (HT.out.keep (HBV.out.trans (HST5d.out.bw.mono HBV.out.size))) HST5d.out.v (by decide) (HEV.out _ HST5d.out.bw) HN.out HM.out (by omega) (by omega) HSZ2.out.1 HSZ2.out.2)
            clear HRC
            go_upto_region 12 with fail
            refine wp_region_held_drew (S := fun W => Below w2.heap.size w5 W) (by kernel_rfl) (below_drewN (Below.refl _ _) 1) ?_
            intro hHeld
            refine take_want (i := 0) (v := ?v0k22) rfl (by kernel_rfl) (by kernel_rfl) (by kernel_rfl) (fun _ _ _ h => h) (by rfl) ?y0k22 (by assumption) ?r0k22
            case y0k22 => (intro w hSw; go_simp; all_goals with_reducible rfl)
            (try simp only [Act.put, List.setIfInBounds_toArray, List.set_cons_zero, List.set_cons_succ])
            refine take_want (i := 1) (v := ?v1k23) rfl (by kernel_rfl) (by kernel_rfl) (by kernel_rfl) (fun _ _ _ h => h) (by rfl) ?y1k23 (by assumption) ?r1k23
            case y1k23 => (intro w hSw; obtain ⟨⟨q0, q1⟩, _⟩ := HCC.out w (HBV.out.trans ((HST5.out.bw.trans hSw).mono HBV.out.size)); go_simp; all_goals with_reducible rfl)
            (try simp only [Act.put, List.setIfInBounds_toArray, List.set_cons_zero, List.set_cons_succ])
            refine take_want (i := 2) (v := ?v2k24) rfl (by kernel_rfl) (by kernel_rfl) (by kernel_rfl) (fun _ _ _ h => h) (by rfl) ?y2k24 (by assumption) ?r2k24
            case y2k24 => (intro w hSw; go_simp; all_goals with_reducible rfl)
            (try simp only [Act.put, List.setIfInBounds_toArray, List.set_cons_zero, List.set_cons_succ])
            refine take_want (i := 3) (v := ?v3k25) rfl (by kernel_rfl) (by kernel_rfl) (by kernel_rfl) (fun _ _ _ h => h) (by rfl) ?y3k25 (by assumption) ?r3k25
            case y3k25 => (intro w hSw; go_simp; all_goals with_reducible rfl)
            (try simp only [Act.put, List.setIfInBounds_toArray, List.set_cons_zero, List.set_cons_succ])
            refine take_want (i := 4) (v := ?v4k26) rfl (by kernel_rfl) (by kernel_rfl) (by kernel_rfl) (fun _ _ _ h => h) (by rfl) ?y4k26 (by assumption) ?r4k26
            case y4k26 => (intro w hSw; go_simp; all_goals with_reducible rfl)
            (try simp only [Act.put, List.setIfInBounds_toArray, List.set_cons_zero, List.set_cons_succ])
            refine take_want (i := 5) (v := ?v5k27) rfl (by kernel_rfl) (by kernel_rfl) (by kernel_rfl) (fun _ _ _ h => h) (by rfl) ?y5k27 (by assumption) ?r5k27
            case y5k27 => (intro w hSw; obtain ⟨c0, c1, c2, c3, c4⟩ := HZC.out w (HST5.out.bw.trans hSw); go_simp; all_goals with_reducible rfl)
            (try simp only [Act.put, List.setIfInBounds_toArray, List.set_cons_zero, List.set_cons_succ])
            refine wpAnyH_ready (rs := [6]) (by kernel_rfl) (by simp) ?_
            refine AllReadyH.cons rfl (fun K hK => ?_) AllReadyH.nil
            go_simp
            (go_at_call 16; refine HJA.out.mono ?_; rintro e w6 hJ6)
            rcases hJ6 with ⟨hnr, rfl, hb6⟩ | ⟨hrj, V', rfl, hV', hL6⟩
            · have HST6 := Lib.hid (HST5d.out.below hb6)
              have HB56 := Lib.hid (show Below w2.heap.size w5 w6 from (hHeld.trans (hb6.mono (by have h1 := hHeld.size; have h2 := HST5.out.bw.size; omega))))
              refine hK.out _ _ HB56.out (fun hHeld => ?_)
              clear hK K
              (try simp only [Act.put, List.setIfInBounds_toArray, List.set_cons_zero, List.set_cons_succ])
              refine take_want (i := 7) (v := ?v7k28) rfl (by kernel_rfl) (by kernel_rfl) (by kernel_rfl) (fun _ _ _ h => h) (by rfl) ?y7k28 (by assumption) ?r7k28
              case y7k28 => (intro w hSw; go_simp; all_goals with_reducible rfl)
              (try simp only [Act.put, List.setIfInBounds_toArray, List.set_cons_zero, List.set_cons_succ])
              refine wpAnyH_done (by kernel_rfl) ?_ _
              obtain rfl : r = false := by
                rw [Bool.eq_false_iff]
                intro h
                exact hnr (HR.out.1 h)
              clear hnr hb6 hHeld
              go_wp2_with fail
              go_roundw
              case rel => exact ⟨k + 1, V, T, K, by omega, by go_num, Lib.hid HST6.out.skip⟩
              case measure => simp [intOf]; omega
            · obtain ⟨X, hX⟩ : ∃ X, X = jappS (normZ V) aN (blockL (encJ z)) := ⟨_, rfl⟩
              rw [← hX] at hV' ⊢
              obtain rfl : r = true := HR.out.2 hrj
              have hstep := HST.out.k.step (by omega) (by have := HN.out; omega) (by have := HM.out; omega) hrj X hX
              rw [← hV'] at hstep
              have HL6 := Lib.hid hL6
              have HTK := Lib.hid (And.intro HST.out.lt HST.out.lk)
              have htk := HTK.out
              have HB56 := Lib.hid (show Below w2.heap.size w5 w6 from hHeld.trans (Left.below' HST5d.out.v hL6 HST5d.out.bw.size))
              clear hX hL6 hV' hrj
              rcases hstep with ⟨e0, hk⟩ | ⟨e0, hbrk, hk⟩
              · have HM6 := Lib.hid (HST5d.out.act HL6.out hk)
                refine hK.out _ _ HB56.out (fun hHeld => ?_)
                clear hK K
                (try simp only [Act.put, List.setIfInBounds_toArray, List.set_cons_zero, List.set_cons_succ])
                refine take_want (i := 7) (v := ?v7k29) rfl (by kernel_rfl) (by kernel_rfl) (by kernel_rfl) (fun _ _ _ h => h) (by rfl) ?y7k29 (by assumption) ?r7k29
                case y7k29 => (intro w hSw; go_simp; all_goals with_reducible rfl)
                (try simp only [Act.put, List.setIfInBounds_toArray, List.set_cons_zero, List.set_cons_succ])
                refine wpAnyH_done (by kernel_rfl) ?_ _
                rw [e0]
                clear e0 hk hHeld
                obtain ⟨c0, c1, c2, c3, c4⟩ := HZC.out w6 HM6.out.bw
                have hs6 : w2.heap.size ≤ w6.heap.size := HM6.out.bw.size
                go_wp2_with (at_builtin; refine wpList_append_own_at _ rfl _ _ 33 rfl w2.heap.size 46 i0 (.agg #[.bool false, .int .i64 0, .int .i64 0, .slice none 0 0, .slice none 0 0]) 5 72 Tryd.underlying33 hi0 hz0 hz1 hz2 rfl (by decide) _ _ _ rfl (HM6.out.ok.alloc _) ⟨w6.heap.size, 0, none⟩ 1 1 (encEnt z) rfl rfl ?c1 ?c2 ?c3 ?c4 ?c5 ?_)
                case c1 => first | exact ent_new1 w6 z _ | exact (fun j u h => by simpa [encEnt] using h)
                case c2 => exact one_encEnt _
                case c3 => unfold maxLen; omega
                case c4 => omega
                case c5 => (first | (simp; omega) | omega)
                intro kv' w7 hown' hgrow _ hblk
                have HM7 := Lib.hid ((HM6.out.alloc (bpush (Below.refl _ _) _)).askd hown' hgrow (hblk.imp id fun h => by rw [h]; simp))
                clear hown' hgrow hblk c0 c1 c2 c3 c4
                obtain ⟨c0, c1, c2, c3, c4⟩ := HZC.out w7 HM7.out.bw
                have hs7 : w2.heap.size ≤ w7.heap.size := HM7.out.bw.size
                go_wp2_with (at_builtin; refine wpList_append_own_at _ rfl _ _ 33 rfl w2.heap.size 46 i0 (.agg #[.bool false, .int .i64 0, .int .i64 0, .slice none 0 0, .slice none 0 0]) 5 72 Tryd.underlying33 hi0 hz0 hz1 hz2 rfl (by decide) _ _ _ rfl (HM7.out.ot.alloc _) ⟨w7.heap.size, 0, none⟩ 1 1 (encEnt z) rfl rfl ?c1 ?c2 ?c3 ?c4 ?c5 ?_)
                case c1 => first | exact ent_new1 w7 z _ | exact (fun j u h => by simpa [encEnt] using h)
                case c2 => exact one_encEnt _
                case c3 => unfold maxLen; omega
                case c4 => omega
                case c5 => (first | (simp; omega) | omega)
                intro tv' w8 hown' hgrow _ hblk
                have HM8 := Lib.hid ((HM7.out.alloc (bpush (Below.refl _ _) _)).tell hown' hgrow (hblk.imp id fun h => by rw [h]; simp))
                have HFIN := Lib.hid (show KSt L M Z w2 w8 a (k + 1) tv' kv' V' (T ++ [z]) (K ++ [z]) from ⟨HM8.out.v, HM8.out.k, HM8.out.ot, HM8.out.ok, HM8.out.ap, by rw [List.length_append, List.length_append]; have := HTK.out.1; omega, by rw [List.length_append]; have := HTK.out.2; simp; omega, fun y hy => (List.mem_append.1 hy).elim (HST.out.mem y) (fun h => by rw [List.mem_singleton.1 h]; exact HZM.out), HM8.out.bw⟩)
                clear hown' hgrow hblk c0 c1 c2 c3 c4
                go_wp2_with fail
                go_roundw
                case rel => exact ⟨k + 1, V', _, _, by omega, by go_num, HFIN⟩
                case measure => simp [intOf]; omega
              · have HM6 := Lib.hid (HST5d.out.act HL6.out hk)
                refine hK.out _ _ HB56.out (fun hHeld => ?_)
                clear hK K
                (try simp only [Act.put, List.setIfInBounds_toArray, List.set_cons_zero, List.set_cons_succ])
                refine take_want (i := 7) (v := ?v7k30) rfl (by kernel_rfl) (by kernel_rfl) (by kernel_rfl) (fun _ _ _ h => h) (by rfl) ?y7k30 (by assumption) ?r7k30
                case y7k30 => (intro w hSw; go_simp; all_goals with_reducible rfl)
                (try simp only [Act.put, List.setIfInBounds_toArray, List.set_cons_zero, List.set_cons_succ])
                refine wpAnyH_done (by kernel_rfl) ?_ _
                rw [e0]
                clear e0 hk hHeld
                obtain ⟨c0, c1, c2, c3, c4⟩ := HZC.out w6 HM6.out.bw
                have hs6 : w2.heap.size ≤ w6.heap.size := HM6.out.bw.size
                go_wp2_with (at_builtin; refine wpList_append_own_at _ rfl _ _ 33 rfl w2.heap.size 46 i0 (.agg #[.bool false, .int .i64 0, .int .i64 0, .slice none 0 0, .slice none 0 0]) 5 72 Tryd.underlying33 hi0 hz0 hz1 hz2 rfl (by decide) _ _ _ rfl (HM6.out.ok.alloc _) ⟨w6.heap.size, 0, none⟩ 1 1 (encEnt z) rfl rfl ?c1 ?c2 ?c3 ?c4 ?c5 ?_)
                case c1 => first | exact ent_new1 w6 z _ | exact (fun j u h => by simpa [encEnt] using h)
                case c2 => exact one_encEnt _
                case c3 => unfold maxLen; omega
                case c4 => omega
                case c5 => (first | (simp; omega) | omega)
                intro kv' w7 hown' hgrow _ hblk
                have HM7 := Lib.hid ((HM6.out.alloc (bpush (Below.refl _ _) _)).askd hown' hgrow (hblk.imp id fun h => by rw [h]; simp))
                clear hown' hgrow hblk c0 c1 c2 c3 c4
                have HBRK := Lib.hid (broken_any a V' w7 HM7.out.v.core)
                rw [show brkZ V' = true from hbrk] at HBRK
                have HFIN := Lib.hid (show KSt L M Z w2 w7 a (k + 1) u10 kv' V' T (K ++ [z]) from ⟨HM7.out.v, HM7.out.k, HM7.out.ot, HM7.out.ok, HM7.out.ap, by rw [List.length_append]; have := HTK.out.1; omega, by rw [List.length_append]; have := HTK.out.2; simp; omega, fun y hy => (List.mem_append.1 hy).elim (HST.out.mem y) (fun h => by rw [List.mem_singleton.1 h]; exact HZM.out), HM7.out.bw⟩)
                clear hbrk
                go_wp2_with (go_at_call 17; refine HBRK.out.mono ?_; rintro e w9 ⟨rfl, rfl⟩)
                go_roundw
                case rel => exact ⟨k + 1, V', T, _, by omega, by go_num, HFIN⟩
                case measure => simp [intOf]; omega
          · obtain rfl : k = nl := by omega
            have hge : ¬ (k : Int) < (k : Int) := by omega
            have HK0 := Lib.hid (HST.out.k.crash (by have := HN.out; omega) (by have := HM.out; omega) HST.out.v.safe_norm o2)
            have hcl := HST.out.k.cnt_len (by have := HN.out; omega) (by have := HM.out; omega) HST.out.v.safe_norm (by have := HST.out.lk; omega) o2
            have HCR := Lib.hid (crash_any w2.heap.size a V o2 wr HST.out.v ho2.1 ho2.2)
            obtain ⟨⟨q0, q1⟩, p0, p1⟩ := HCC.out wr (HBV.out.trans (HST.out.bw.mono HBV.out.size))
            clear hlt
            go_wp2_with fail
            refine HCR.out.mono ?_
            rintro e w6 ⟨a2, V2, rfl, hV2, hv2, hb6⟩
            clear q0 q1 p0 p1 hge
            obtain ⟨bs, hbs⟩ : ∃ bs, bs = cntZ (crashS o2 (normZ V)) aN := ⟨_, rfl⟩
            rw [← hbs] at hcl
            rw [← hbs] at HK0
            have HBS := Lib.hid (show bs = (lkF V2.F aN).bs from by rw [hbs, ← hV2, cnt_norm])
            have HST6 := Lib.hid (HST.out.below hb6)
            have HRD := Lib.hid (jread_any wr.heap.size a2 V2 aN A B n c m d L M w6 (HT.out.keep (HBV.out.trans (HST6.out.bw.mono HBV.out.size))) hv2 (by decide) HN.out HM.out (by omega) (by omega) bs HBS.out (by omega))
            obtain ⟨⟨q0, q1⟩, p0, p1⟩ := HCC.out w6 (HBV.out.trans (HST6.out.bw.mono HBV.out.size))
            clear hbs hcl hV2 hv2 hb6 HCR
            go_wp2_with fail
            refine HRD.out.mono ?_
            rintro e w7 ⟨A7, c7, Z7, k7, rfl, hZ7, hlc7, hnil7, hrun7, hkb7, hb7⟩
            clear q0 q1 p0 p1 HRD
            obtain ⟨Y, hrunY, hy1, hy2, hy3, hy4⟩ := HK0.out
            obtain ⟨hsame, _⟩ := hrun7.one hrunY
            have hlY := hsame.len
            obtain ⟨ly, hly⟩ : ∃ ly, ly = Z7.length := ⟨_, rfl⟩
            rw [← hly] at hlY ⊢
            rw [← hlY] at hy1 hy2 hy3 hy4
            have HST7 := Lib.hid (HST6.out.below hb7)
            obtain ⟨At, ct, htv, _, _, _⟩ := own_slice5 HST7.out.ot
            obtain ⟨Ak, ck, hkv, hrk, hck, hnk⟩ := own_slice5 HST7.out.ok
            have HEK := Lib.hid (show EntsC w7 Ak K from ⟨hrk, fun z hz => (HENT.out.good z (HST.out.mem z hz)).keep (Nat.le_refl _) HST7.out.bw⟩)
            obtain ⟨lt, hlt⟩ : ∃ lt, lt = T.length := ⟨_, rfl⟩
            obtain ⟨lk, hlk⟩ : ∃ lk, lk = K.length := ⟨_, rfl⟩
            rw [← hlt] at hy1 hy2 htv
            rw [← hlk] at hy3 hkv hck
            have hlk40 : lk ≤ 40 := by have := HST.out.lk; omega
            obtain ⟨E, hsl, hE⟩ : ∃ E, (∀ W, Sem.run Tryd.prog (Instr.slice 33 (.slice Ak lk ck) none (some (.int .i64 (ly : Int))) none) W = .ok (.slice E ly ck) W) ∧ ∀ W (Z : List EZ), EntsC W Ak Z → EntsC W E Z := by
              refine ⟨Ak, fun W => ?_, fun W Z h => h⟩
              obtain ⟨E, h1, _⟩ := slice_ents W Ak lk ck ly (by omega) hnk
              have h2 := slice_at W Ak lk ck ly (by omega)
              exact h2
            have HAL := Lib.hid (fun W (h : Below w7.heap.size w7 W) => alive_any W (HT.out.keep (HBV.out.trans ((bthen HST7.out.bw h).mono HBV.out.size))))
            have HSM := Lib.hid (fun W (h : Below w7.heap.size w7 W) => samel_any A7 E ly c7 ly ck Z7 (K.take ly) W (hZ7.keep (Nat.le_refl _) h) ((hE W _ ((HEK.out.keep (Nat.le_refl _) h).upto ly))) hly (by rw [List.length_take]; omega) (by omega) (by omega) (hZ7.sized hrun7.1.right (by have := HN.out; omega) (by have := HM.out; omega)) (fun z hz => HSZ.out z (HST.out.mem z (List.mem_of_mem_take hz))) true (by simp only [true_iff]; rw [← hy4]; exact hsame))
            have HB7 := Lib.hid (show Below W1.heap.size W1 w7 from HBV.out.trans (HST7.out.bw.mono HBV.out.size))
            have hn1 : ¬ (ly : Int) < (lt : Int) := by omega
            have hn2' : ¬ (lt : Int) + 1 < (ly : Int) := by omega
            have hn3 : ¬ (lk : Int) < (ly : Int) := by omega
            have hy0 : (0 : Int) ≤ (ly : Int) := by omega
            rw [htv, hkv]
            clear hZ7 hlc7 hnil7 hrun7 hkb7 hb7 hrunY hy4 hsame hlY hly hrk hE hlt hlk htv hkv HK0
            go_upto_region 25 with fail
            clear hn1 hn2' hn3
            go_wp2_with fail
            refine (HAL.out _ (by first | exact Below.refl _ _ | exact below_drewN (Below.refl _ _) 1)).mono ?_
            rintro e w8 ⟨rfl, hb8⟩
            have HB8 := Lib.hid hb8
            clear hb8
            go_wp2_with fail
            refine (HSM.out _ HB8.out).mono ?_
            rintro e w9 ⟨rfl, hb9⟩
            have HB9 := Lib.hid hb9
            clear hb9
            go_wp2_with fail
            go_ret
            exact ⟨rfl, bthen HBW1.out (bthen HB7.out (bthen HB8.out HB9.out))⟩
    · have d1 : decide ((0 : Int) ≤ o1) = false := by simp; omega
      obtain ⟨V4, hV4⟩ : ∃ V4, V4 = newZ 16777216 vb := ⟨_, rfl⟩
      have HST0 := Lib.hid (show KSt L M Z w2 w3 a 0 (.slice none 0 0) (.slice none 0 0) V4 [] [] from ⟨by rw [hV4]; exact HV3.out, HKP.out V4 (by rw [hV4]; rfl) (by rw [hV4]; rfl), World.ownsRow_nil _ _ _ _, World.ownsRow_nil _ _ _ _, .inl rfl, Nat.le_refl _, Nat.le_refl _, (fun z hz => by cases hz), HB3.out⟩)
      clear hV4 h1
      go_wp2_with fail
      clear d1 q0 q1 p0 p1
      go_loopw [10, 11, 12] (fun tv kv i wr => ∃ (k : Nat) (V : VZ) (T K : List EZ), k ≤ nl ∧ i = .int .i64 k ∧ Hid (KSt L M Z w2 wr a k tv kv V T K)) (fun _ _ i _ => nl - (intOf i).toNat)
      case atStart => exact ⟨0, V4, [], [], Nat.zero_le _, rfl, HST0⟩
      case round =>
        clear HST0
        obtain ⟨k, V, T, K, hk, rfl, HST⟩ := hrel
        by_cases hlt : k < nl
        · have hkz : k < Z.length := by have := HL.out; omega
          have hki : (k : Int) < (nl : Int) := by omega
          have hk0 : (0 : Int) ≤ (k : Int) := by omega
          obtain ⟨b, off, hAe, -⟩ := HENT.out.at hkz
          subst hAe
          obtain ⟨z, hz⟩ : ∃ z, z = Z[k] := ⟨_, rfl⟩
          have HZC := Lib.hid (fun W (h : Below w2.heap.size w2 W) => show W.cell? ⟨b, off + k * 5, none⟩ = some (.bool z.tick) ∧ W.cell? ⟨b, off + k * 5 + 1, none⟩ = some (.int .i64 z.now) ∧ W.cell? ⟨b, off + k * 5 + 2, none⟩ = some (.int .i64 z.ev.t) ∧ W.cell? ⟨b, off + k * 5 + 3, none⟩ = some (.slice z.ev.E z.ev.p z.ev.q) ∧ W.cell? ⟨b, off + k * 5 + 4, none⟩ = some (.slice z.ev.F z.ev.x z.ev.y) from by rw [hz]; exact (HENT.out.keep (Nat.le_refl _) h).cells hkz)
          have hzm : z ∈ Z := by rw [hz]; exact List.getElem_mem _
          have HEV := Lib.hid (fun W (h : Below w2.heap.size w2 W) => show EvG W z.ev from (HENT.out.good z hzm).keep (Nat.le_refl _) h)
          have HSZ2 := Lib.hid (HSZ.out z hzm)
          have HZM := Lib.hid hzm
          clear hz hzm hkz
          obtain ⟨r, hr⟩ := bool_of (rightJ L M z)
          have HR := Lib.hid hr
          have HRC := Lib.hid (refjright_any A B n c m d L M z wr.drew (HEV.out _ (bthen HST.out.bw (below_drewN (Below.refl _ _) 1))) HN.out HM.out HSZ2.out.1 HSZ2.out.2 r hr)
          clear hr
          go_upto_region 11 with fail
          refine wp_region_held_drew (S := fun W => Below wr.heap.size wr W) (by kernel_rfl) (below_drewN (Below.refl _ _) 1) ?_
          intro hHeld
          refine take_want (i := 0) (v := ?v0k31) rfl (by kernel_rfl) (by kernel_rfl) (by kernel_rfl) (fun _ _ _ h => h) (by rfl) ?y0k31 (by assumption) ?r0k31
          case y0k31 => (intro w hSw; obtain ⟨⟨q0, q1⟩, _⟩ := HCC.out w (HBV.out.trans ((HST.out.bw.trans (hSw.mono HST.out.bw.size)).mono HBV.out.size)); go_simp; all_goals with_reducible rfl)
          (try simp only [Act.put, List.setIfInBounds_toArray, List.set_cons_zero, List.set_cons_succ])
          refine take_want (i := 1) (v := ?v1k32) rfl (by kernel_rfl) (by kernel_rfl) (by kernel_rfl) (fun _ _ _ h => h) (by rfl) ?y1k32 (by assumption) ?r1k32
          case y1k32 => (intro w hSw; go_simp; all_goals with_reducible rfl)
          (try simp only [Act.put, List.setIfInBounds_toArray, List.set_cons_zero, List.set_cons_succ])
          refine take_want (i := 2) (v := ?v2k33) rfl (by kernel_rfl) (by kernel_rfl) (by kernel_rfl) (fun _ _ _ h => h) (by rfl) ?y2k33 (by assumption) ?r2k33
          case y2k33 => (intro w hSw; go_simp; all_goals with_reducible rfl)
          (try simp only [Act.put, List.setIfInBounds_toArray, List.set_cons_zero, List.set_cons_succ])
          refine take_want (i := 3) (v := ?v3k34) rfl (by kernel_rfl) (by kernel_rfl) (by kernel_rfl) (fun _ _ _ h => h) (by rfl) ?y3k34 (by assumption) ?r3k34
          case y3k34 => (intro w hSw; go_simp; all_goals with_reducible rfl)
          (try simp only [Act.put, List.setIfInBounds_toArray, List.set_cons_zero, List.set_cons_succ])
          refine take_want (i := 4) (v := ?v4k35) rfl (by kernel_rfl) (by kernel_rfl) (by kernel_rfl) (fun _ _ _ h => h) (by rfl) ?y4k35 (by assumption) ?r4k35
          case y4k35 => (intro w hSw; obtain ⟨c0, c1, c2, c3, c4⟩ := HZC.out w (HST.out.bw.trans (hSw.mono HST.out.bw.size)); go_simp; all_goals with_reducible rfl)
          (try simp only [Act.put, List.setIfInBounds_toArray, List.set_cons_zero, List.set_cons_succ])
          refine wpAnyH_ready (rs := [5]) (by kernel_rfl) (by simp) ?_
          refine AllReadyH.cons rfl (fun K hK => ?_) AllReadyH.nil
          go_simp
          (go_at_call 15; refine HRC.out.mono ?_; rintro e w5 ⟨rfl, hb5⟩)
          have HB5 := Lib.hid (show Below wr.heap.size wr w5 from bthen hHeld hb5)
          refine hK.out _ _ HB5.out (fun hHeld => ?_)
          clear hK K
          (try simp only [Act.put, List.setIfInBounds_toArray, List.set_cons_zero, List.set_cons_succ])
          refine take_want (i := 6) (v := ?v6k36) rfl (by kernel_rfl) (by kernel_rfl) (by kernel_rfl) (fun _ _ _ h => h) (by rfl) ?y6k36 (by assumption) ?r6k36
          case y6k36 => (intro w hSw; go_simp; all_goals with_reducible rfl)
          (try simp only [Act.put, List.setIfInBounds_toArray, List.set_cons_zero, List.set_cons_succ])
          refine wpAnyH_done (by kernel_rfl) ?_ _
          clear hb5 hHeld
          have HST5 := Lib.hid (HST.out.below HB5.out)
          have HST5d := Lib.hid (HST5.out.below (below_drewN (Below.refl _ _) 1))
          have HJA := Lib.hid (jappend_any w2.heap.size a V aN A B n c m d L M z w5.drew (HT.out.keep (HBV.out.trans (HST5d.out.bw.mono HBV.out.size))) HST5d.out.v (by decide) (HEV.out _ HST5d.out.bw) HN.out HM.out (by omega) (by omega) HSZ2.out.1 HSZ2.out.2)
          clear HRC
          go_upto_region 12 with fail
          refine wp_region_held_drew (S := fun W => Below w2.heap.size w5 W) (by kernel_rfl) (below_drewN (Below.refl _ _) 1) ?_
          intro hHeld
          refine take_want (i := 0) (v := ?v0k37) rfl (by kernel_rfl) (by kernel_rfl) (by kernel_rfl) (fun _ _ _ h => h) (by rfl) ?y0k37 (by assumption) ?r0k37
          case y0k37 => (intro w hSw; go_simp; all_goals with_reducible rfl)
          (try simp only [Act.put, List.setIfInBounds_toArray, List.set_cons_zero, List.set_cons_succ])
          refine take_want (i := 1) (v := ?v1k38) rfl (by kernel_rfl) (by kernel_rfl) (by kernel_rfl) (fun _ _ _ h => h) (by rfl) ?y1k38 (by assumption) ?r1k38
          case y1k38 => (intro w hSw; obtain ⟨⟨q0, q1⟩, _⟩ := HCC.out w (HBV.out.trans ((HST5.out.bw.trans hSw).mono HBV.out.size)); go_simp; all_goals with_reducible rfl)
          (try simp only [Act.put, List.setIfInBounds_toArray, List.set_cons_zero, List.set_cons_succ])
          refine take_want (i := 2) (v := ?v2k39) rfl (by kernel_rfl) (by kernel_rfl) (by kernel_rfl) (fun _ _ _ h => h) (by rfl) ?y2k39 (by assumption) ?r2k39
          case y2k39 => (intro w hSw; go_simp; all_goals with_reducible rfl)
          (try simp only [Act.put, List.setIfInBounds_toArray, List.set_cons_zero, List.set_cons_succ])
          refine take_want (i := 3) (v := ?v3k40) rfl (by kernel_rfl) (by kernel_rfl) (by kernel_rfl) (fun _ _ _ h => h) (by rfl) ?y3k40 (by assumption) ?r3k40
          case y3k40 => (intro w hSw; go_simp; all_goals with_reducible rfl)
          (try simp only [Act.put, List.setIfInBounds_toArray, List.set_cons_zero, List.set_cons_succ])
          refine take_want (i := 4) (v := ?v4k41) rfl (by kernel_rfl) (by kernel_rfl) (by kernel_rfl) (fun _ _ _ h => h) (by rfl) ?y4k41 (by assumption) ?r4k41
          case y4k41 => (intro w hSw; go_simp; all_goals with_reducible rfl)
          (try simp only [Act.put, List.setIfInBounds_toArray, List.set_cons_zero, List.set_cons_succ])
          refine take_want (i := 5) (v := ?v5k42) rfl (by kernel_rfl) (by kernel_rfl) (by kernel_rfl) (fun _ _ _ h => h) (by rfl) ?y5k42 (by assumption) ?r5k42
          case y5k42 => (intro w hSw; obtain ⟨c0, c1, c2, c3, c4⟩ := HZC.out w (HST5.out.bw.trans hSw); go_simp; all_goals with_reducible rfl)
          (try simp only [Act.put, List.setIfInBounds_toArray, List.set_cons_zero, List.set_cons_succ])
          refine wpAnyH_ready (rs := [6]) (by kernel_rfl) (by simp) ?_
          refine AllReadyH.cons rfl (fun K hK => ?_) AllReadyH.nil
          go_simp
          (go_at_call 16; refine HJA.out.mono ?_; rintro e w6 hJ6)
          rcases hJ6 with ⟨hnr, rfl, hb6⟩ | ⟨hrj, V', rfl, hV', hL6⟩
          · have HST6 := Lib.hid (HST5d.out.below hb6)
            have HB56 := Lib.hid (show Below w2.heap.size w5 w6 from (hHeld.trans (hb6.mono (by have h1 := hHeld.size; have h2 := HST5.out.bw.size; omega))))
            refine hK.out _ _ HB56.out (fun hHeld => ?_)
            clear hK K
            (try simp only [Act.put, List.setIfInBounds_toArray, List.set_cons_zero, List.set_cons_succ])
            refine take_want (i := 7) (v := ?v7k43) rfl (by kernel_rfl) (by kernel_rfl) (by kernel_rfl) (fun _ _ _ h => h) (by rfl) ?y7k43 (by assumption) ?r7k43
            case y7k43 => (intro w hSw; go_simp; all_goals with_reducible rfl)
            (try simp only [Act.put, List.setIfInBounds_toArray, List.set_cons_zero, List.set_cons_succ])
            refine wpAnyH_done (by kernel_rfl) ?_ _
            obtain rfl : r = false := by
              rw [Bool.eq_false_iff]
              intro h
              exact hnr (HR.out.1 h)
            clear hnr hb6 hHeld
            go_wp2_with fail
            go_roundw
            case rel => exact ⟨k + 1, V, T, K, by omega, by go_num, Lib.hid HST6.out.skip⟩
            case measure => simp [intOf]; omega
          · obtain ⟨X, hX⟩ : ∃ X, X = jappS (normZ V) aN (blockL (encJ z)) := ⟨_, rfl⟩
            rw [← hX] at hV' ⊢
            obtain rfl : r = true := HR.out.2 hrj
            have hstep := HST.out.k.step (by omega) (by have := HN.out; omega) (by have := HM.out; omega) hrj X hX
            rw [← hV'] at hstep
            have HL6 := Lib.hid hL6
            have HTK := Lib.hid (And.intro HST.out.lt HST.out.lk)
            have htk := HTK.out
            have HB56 := Lib.hid (show Below w2.heap.size w5 w6 from hHeld.trans (Left.below' HST5d.out.v hL6 HST5d.out.bw.size))
            clear hX hL6 hV' hrj
            rcases hstep with ⟨e0, hk⟩ | ⟨e0, hbrk, hk⟩
            · have HM6 := Lib.hid (HST5d.out.act HL6.out hk)
              refine hK.out _ _ HB56.out (fun hHeld => ?_)
              clear hK K
              (try simp only [Act.put, List.setIfInBounds_toArray, List.set_cons_zero, List.set_cons_succ])
              refine take_want (i := 7) (v := ?v7k44) rfl (by kernel_rfl) (by kernel_rfl) (by kernel_rfl) (fun _ _ _ h => h) (by rfl) ?y7k44 (by assumption) ?r7k44
              case y7k44 => (intro w hSw; go_simp; all_goals with_reducible rfl)
              (try simp only [Act.put, List.setIfInBounds_toArray, List.set_cons_zero, List.set_cons_succ])
              refine wpAnyH_done (by kernel_rfl) ?_ _
              rw [e0]
              clear e0 hk hHeld
              obtain ⟨c0, c1, c2, c3, c4⟩ := HZC.out w6 HM6.out.bw
              have hs6 : w2.heap.size ≤ w6.heap.size := HM6.out.bw.size
              go_wp2_with (at_builtin; refine wpList_append_own_at _ rfl _ _ 33 rfl w2.heap.size 46 i0 (.agg #[.bool false, .int .i64 0, .int .i64 0, .slice none 0 0, .slice none 0 0]) 5 72 Tryd.underlying33 hi0 hz0 hz1 hz2 rfl (by decide) _ _ _ rfl (HM6.out.ok.alloc _) ⟨w6.heap.size, 0, none⟩ 1 1 (encEnt z) rfl rfl ?c1 ?c2 ?c3 ?c4 ?c5 ?_)
              case c1 => first | exact ent_new1 w6 z _ | exact (fun j u h => by simpa [encEnt] using h)
              case c2 => exact one_encEnt _
              case c3 => unfold maxLen; omega
              case c4 => omega
              case c5 => (first | (simp; omega) | omega)
              intro kv' w7 hown' hgrow _ hblk
              have HM7 := Lib.hid ((HM6.out.alloc (bpush (Below.refl _ _) _)).askd hown' hgrow (hblk.imp id fun h => by rw [h]; simp))
              clear hown' hgrow hblk c0 c1 c2 c3 c4
              obtain ⟨c0, c1, c2, c3, c4⟩ := HZC.out w7 HM7.out.bw
              have hs7 : w2.heap.size ≤ w7.heap.size := HM7.out.bw.size
              go_wp2_with (at_builtin; refine wpList_append_own_at _ rfl _ _ 33 rfl w2.heap.size 46 i0 (.agg #[.bool false, .int .i64 0, .int .i64 0, .slice none 0 0, .slice none 0 0]) 5 72 Tryd.underlying33 hi0 hz0 hz1 hz2 rfl (by decide) _ _ _ rfl (HM7.out.ot.alloc _) ⟨w7.heap.size, 0, none⟩ 1 1 (encEnt z) rfl rfl ?c1 ?c2 ?c3 ?c4 ?c5 ?_)
              case c1 => first | exact ent_new1 w7 z _ | exact (fun j u h => by simpa [encEnt] using h)
              case c2 => exact one_encEnt _
              case c3 => unfold maxLen; omega
              case c4 => omega
              case c5 => (first | (simp; omega) | omega)
              intro tv' w8 hown' hgrow _ hblk
              have HM8 := Lib.hid ((HM7.out.alloc (bpush (Below.refl _ _) _)).tell hown' hgrow (hblk.imp id fun h => by rw [h]; simp))
              have HFIN := Lib.hid (show KSt L M Z w2 w8 a (k + 1) tv' kv' V' (T ++ [z]) (K ++ [z]) from ⟨HM8.out.v, HM8.out.k, HM8.out.ot, HM8.out.ok, HM8.out.ap, by rw [List.length_append, List.length_append]; have := HTK.out.1; omega, by rw [List.length_append]; have := HTK.out.2; simp; omega, fun y hy => (List.mem_append.1 hy).elim (HST.out.mem y) (fun h => by rw [List.mem_singleton.1 h]; exact HZM.out), HM8.out.bw⟩)
              clear hown' hgrow hblk c0 c1 c2 c3 c4
              go_wp2_with fail
              go_roundw
              case rel => exact ⟨k + 1, V', _, _, by omega, by go_num, HFIN⟩
              case measure => simp [intOf]; omega
            · have HM6 := Lib.hid (HST5d.out.act HL6.out hk)
              refine hK.out _ _ HB56.out (fun hHeld => ?_)
              clear hK K
              (try simp only [Act.put, List.setIfInBounds_toArray, List.set_cons_zero, List.set_cons_succ])
              refine take_want (i := 7) (v := ?v7k45) rfl (by kernel_rfl) (by kernel_rfl) (by kernel_rfl) (fun _ _ _ h => h) (by rfl) ?y7k45 (by assumption) ?r7k45
              case y7k45 => (intro w hSw; go_simp; all_goals with_reducible rfl)
              (try simp only [Act.put, List.setIfInBounds_toArray, List.set_cons_zero, List.set_cons_succ])
              refine wpAnyH_done (by kernel_rfl) ?_ _
              rw [e0]
              clear e0 hk hHeld
              obtain ⟨c0, c1, c2, c3, c4⟩ := HZC.out w6 HM6.out.bw
              have hs6 : w2.heap.size ≤ w6.heap.size := HM6.out.bw.size
              go_wp2_with (at_builtin; refine wpList_append_own_at _ rfl _ _ 33 rfl w2.heap.size 46 i0 (.agg #[.bool false, .int .i64 0, .int .i64 0, .slice none 0 0, .slice none 0 0]) 5 72 Tryd.underlying33 hi0 hz0 hz1 hz2 rfl (by decide) _ _ _ rfl (HM6.out.ok.alloc _) ⟨w6.heap.size, 0, none⟩ 1 1 (encEnt z) rfl rfl ?c1 ?c2 ?c3 ?c4 ?c5 ?_)
              case c1 => first | exact ent_new1 w6 z _ | exact (fun j u h => by simpa [encEnt] using h)
              case c2 => exact one_encEnt _
              case c3 => unfold maxLen; omega
              case c4 => omega
              case c5 => (first | (simp; omega) | omega)
              intro kv' w7 hown' hgrow _ hblk
              have HM7 := Lib.hid ((HM6.out.alloc (bpush (Below.refl _ _) _)).askd hown' hgrow (hblk.imp id fun h => by rw [h]; simp))
              clear hown' hgrow hblk c0 c1 c2 c3 c4
              have HBRK := Lib.hid (broken_any a V' w7 HM7.out.v.core)
              rw [show brkZ V' = true from hbrk] at HBRK
              have HFIN := Lib.hid (show KSt L M Z w2 w7 a (k + 1) u10 kv' V' T (K ++ [z]) from ⟨HM7.out.v, HM7.out.k, HM7.out.ot, HM7.out.ok, HM7.out.ap, by rw [List.length_append]; have := HTK.out.1; omega, by rw [List.length_append]; have := HTK.out.2; simp; omega, fun y hy => (List.mem_append.1 hy).elim (HST.out.mem y) (fun h => by rw [List.mem_singleton.1 h]; exact HZM.out), HM7.out.bw⟩)
              clear hbrk
              go_wp2_with (go_at_call 17; refine HBRK.out.mono ?_; rintro e w9 ⟨rfl, rfl⟩)
              go_roundw
              case rel => exact ⟨k + 1, V', T, _, by omega, by go_num, HFIN⟩
              case measure => simp [intOf]; omega
        · obtain rfl : k = nl := by omega
          have hge : ¬ (k : Int) < (k : Int) := by omega
          have HK0 := Lib.hid (HST.out.k.crash (by have := HN.out; omega) (by have := HM.out; omega) HST.out.v.safe_norm o2)
          have hcl := HST.out.k.cnt_len (by have := HN.out; omega) (by have := HM.out; omega) HST.out.v.safe_norm (by have := HST.out.lk; omega) o2
          have HCR := Lib.hid (crash_any w2.heap.size a V o2 wr HST.out.v ho2.1 ho2.2)
          obtain ⟨⟨q0, q1⟩, p0, p1⟩ := HCC.out wr (HBV.out.trans (HST.out.bw.mono HBV.out.size))
          clear hlt
          go_wp2_with fail
          refine HCR.out.mono ?_
          rintro e w6 ⟨a2, V2, rfl, hV2, hv2, hb6⟩
          clear q0 q1 p0 p1 hge
          obtain ⟨bs, hbs⟩ : ∃ bs, bs = cntZ (crashS o2 (normZ V)) aN := ⟨_, rfl⟩
          rw [← hbs] at hcl
          rw [← hbs] at HK0
          have HBS := Lib.hid (show bs = (lkF V2.F aN).bs from by rw [hbs, ← hV2, cnt_norm])
          have HST6 := Lib.hid (HST.out.below hb6)
          have HRD := Lib.hid (jread_any wr.heap.size a2 V2 aN A B n c m d L M w6 (HT.out.keep (HBV.out.trans (HST6.out.bw.mono HBV.out.size))) hv2 (by decide) HN.out HM.out (by omega) (by omega) bs HBS.out (by omega))
          obtain ⟨⟨q0, q1⟩, p0, p1⟩ := HCC.out w6 (HBV.out.trans (HST6.out.bw.mono HBV.out.size))
          clear hbs hcl hV2 hv2 hb6 HCR
          go_wp2_with fail
          refine HRD.out.mono ?_
          rintro e w7 ⟨A7, c7, Z7, k7, rfl, hZ7, hlc7, hnil7, hrun7, hkb7, hb7⟩
          clear q0 q1 p0 p1 HRD
          obtain ⟨Y, hrunY, hy1, hy2, hy3, hy4⟩ := HK0.out
          obtain ⟨hsame, _⟩ := hrun7.one hrunY
          have hlY := hsame.len
          obtain ⟨ly, hly⟩ : ∃ ly, ly = Z7.length := ⟨_, rfl⟩
          rw [← hly] at hlY ⊢
          rw [← hlY] at hy1 hy2 hy3 hy4
          have HST7 := Lib.hid (HST6.out.below hb7)
          obtain ⟨At, ct, htv, _, _, _⟩ := own_slice5 HST7.out.ot
          obtain ⟨Ak, ck, hkv, hrk, hck, hnk⟩ := own_slice5 HST7.out.ok
          have HEK := Lib.hid (show EntsC w7 Ak K from ⟨hrk, fun z hz => (HENT.out.good z (HST.out.mem z hz)).keep (Nat.le_refl _) HST7.out.bw⟩)
          obtain ⟨lt, hlt⟩ : ∃ lt, lt = T.length := ⟨_, rfl⟩
          obtain ⟨lk, hlk⟩ : ∃ lk, lk = K.length := ⟨_, rfl⟩
          rw [← hlt] at hy1 hy2 htv
          rw [← hlk] at hy3 hkv hck
          have hlk40 : lk ≤ 40 := by have := HST.out.lk; omega
          obtain ⟨E, hsl, hE⟩ : ∃ E, (∀ W, Sem.run Tryd.prog (Instr.slice 33 (.slice Ak lk ck) none (some (.int .i64 (ly : Int))) none) W = .ok (.slice E ly ck) W) ∧ ∀ W (Z : List EZ), EntsC W Ak Z → EntsC W E Z := by
            refine ⟨Ak, fun W => ?_, fun W Z h => h⟩
            obtain ⟨E, h1, _⟩ := slice_ents W Ak lk ck ly (by omega) hnk
            have h2 := slice_at W Ak lk ck ly (by omega)
            exact h2
          have HAL := Lib.hid (fun W (h : Below w7.heap.size w7 W) => alive_any W (HT.out.keep (HBV.out.trans ((bthen HST7.out.bw h).mono HBV.out.size))))
          have HSM := Lib.hid (fun W (h : Below w7.heap.size w7 W) => samel_any A7 E ly c7 ly ck Z7 (K.take ly) W (hZ7.keep (Nat.le_refl _) h) ((hE W _ ((HEK.out.keep (Nat.le_refl _) h).upto ly))) hly (by rw [List.length_take]; omega) (by omega) (by omega) (hZ7.sized hrun7.1.right (by have := HN.out; omega) (by have := HM.out; omega)) (fun z hz => HSZ.out z (HST.out.mem z (List.mem_of_mem_take hz))) true (by simp only [true_iff]; rw [← hy4]; exact hsame))
          have HB7 := Lib.hid (show Below W1.heap.size W1 w7 from HBV.out.trans (HST7.out.bw.mono HBV.out.size))
          have hn1 : ¬ (ly : Int) < (lt : Int) := by omega
          have hn2' : ¬ (lt : Int) + 1 < (ly : Int) := by omega
          have hn3 : ¬ (lk : Int) < (ly : Int) := by omega
          have hy0 : (0 : Int) ≤ (ly : Int) := by omega
          rw [htv, hkv]
          clear hZ7 hlc7 hnil7 hrun7 hkb7 hb7 hrunY hy4 hsame hlY hly hrk hE hlt hlk htv hkv HK0
          go_upto_region 25 with fail
          clear hn1 hn2' hn3
          go_wp2_with fail
          refine (HAL.out _ (by first | exact Below.refl _ _ | exact below_drewN (Below.refl _ _) 1)).mono ?_
          rintro e w8 ⟨rfl, hb8⟩
          have HB8 := Lib.hid hb8
          clear hb8
          go_wp2_with fail
          refine (HSM.out _ HB8.out).mono ?_
          rintro e w9 ⟨rfl, hb9⟩
          have HB9 := Lib.hid hb9
          clear hb9
          go_wp2_with fail
          go_ret
          exact ⟨rfl, bthen HBW1.out (bthen HB7.out (bthen HB8.out HB9.out))⟩
end Go.Proofs.YthogafecplhckaaDoor
