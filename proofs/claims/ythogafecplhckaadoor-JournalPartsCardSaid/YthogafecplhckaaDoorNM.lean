/- one (24), alive (8). -/
import Derived.Test.YthogafecplhckaaDoorNL
namespace Go.Proofs.YthogafecplhckaaDoor
open Go.RowKit
set_option linter.unusedSimpArgs false
set_option linter.unusedVariables false
theorem norm_new (r b : Nat) : normZ (newZ r b) = newZ r 0 := rfl
theorem new_rep {w w' : World} {r b a : Nat} (h : VCore w' a (newZ r b)) (ha : w.heap.size ≤ a) (hb : w.heap.size ≤ b) : VRep w' w.heap.size a (newZ r b) :=
  ⟨h, (fun f hf => by cases hf), List.Pairwise.nil, (fun f hf => by cases hf), (fun f hf => by cases hf), (fun f hf => by cases hf), ha, hb, Nat.zero_le _, Nat.zero_le _⟩
def NewGP (w : World) (room : Nat) (e : Ending) (w' : World) : Prop := ∃ b a, e = .returned (.tuple #[.pointer (some ⟨a, 0, none⟩), .int .i64 0]) ∧ VRep w' w.heap.size a (newZ room b) ∧ Below w.heap.size w w'
theorem newG_any (room : Nat) (w : World) (h : room ≤ 16777216) : Calls Tryd.prog 9 #[.int .i64 (room : Int)] w (NewGP w room) := by
  refine (new_any room w (by omega) (by omega)).mono ?_
  rintro e w' (⟨h1, _⟩ | ⟨r, h1, h2, h3, h4, h5⟩)
  · omega
  · obtain rfl : room = r := by omega
    exact ⟨w.heap.size, w.heap.size + 1, h3, new_rep h4 (Nat.le_succ _) (Nat.le_refl _), h5⟩
theorem new_ok (r : Nat) : VOk (newZ r 0) := ⟨List.Pairwise.nil, fun f hf => by cases hf⟩
def WellP (w : World) (B a : Nat) (V : VZ) (s : ByteArray) (bs : List Int) (e : Ending) (w' : World) : Prop :=
  ∃ V', e = .returned (.int .i64 0) ∧ Appd (normZ V) (normZ V') s bs ∧ sfZ (normZ V') s = (cntZ (normZ V) s ++ bs).length ∧ Left w w' B a V V'
/-- A right entry, appended to a vault with room that no fuse breaks. -/
theorem jwell_any (B a : Nat) (V : VZ) (s : ByteArray) (A0 B0 : Option Addr) (n c m d : Nat) (L M : List ByteArray) (z : EZ) (w : World) (hT : Tab w) (h : VRep w B a V) (hs : s.size ≤ 9223372036854775807) (hz : EvG w z.ev) (hn : n = L.length) (hm : m = M.length) (hn2 : n ≤ 1000) (hm2 : m ≤ 1000) (hp2 : z.ev.p ≤ 9223372036854775807) (hx2 : z.ev.x ≤ 9223372036854775807)
    (ha : V.armed = false) (hname : nameB s = true) (hu : usedF V.F + (blockL (encJ z)).length ≤ V.room) (hl : V.F.length < 200) (hr : rightJ L M z) :
    Calls Tryd.prog 16 #[.pointer (some ⟨a, 0, none⟩), .string s, .agg #[.slice A0 n c, .slice B0 m d], z.arg] w (WellP w B a V s (blockL (encJ z))) := by
  refine (jappend_any B a V s A0 B0 n c m d L M z w hT h hs hz hn hm hn2 hm2 hp2 hx2).mono ?_
  rintro e w' (⟨hnr, _⟩ | ⟨_, V', rfl, hv, hleft⟩)
  · exact absurd hr hnr
  · obtain ⟨P', h1, h2, h3⟩ := japp_free (P := normZ V) (s := s) (bs := blockL (encJ z)) (VOk.norm h) ha hname (by show usedF (V.F.map normF) + _ ≤ V.room; rw [norm_used]; exact hu) (by show (V.F.map normF).length < 200; rw [List.length_map]; exact hl)
    rw [h1] at hv ⊢
    exact ⟨V', rfl, by rw [hv]; exact h2, by rw [hv]; exact h3, hleft⟩
def OneP (w : World) (e : Ending) (w' : World) : Prop := ∃ g h, e = .returned (.agg #[.slice (some ⟨g, 0, none⟩) 1 1, .slice (some ⟨h, 0, none⟩) 1 1]) ∧ Below w.heap.size w w'
set_option maxRecDepth 100000 in
set_option maxHeartbeats 4000000 in
theorem schema_one (w : World) : Calls Tryd.prog 24 #[] w (OneP w) := by
  go_enter Tryd.func24, Tryd.ntmps24
  go_wp2_with fail
  refine bodyPost_ret (v := .agg #[.slice (some ⟨w.heap.size + 1, 0, none⟩) 1 1, .slice (some ⟨w.heap.size + 1 + 1, 0, none⟩) 1 1]) (by simp [results, Tryd.results24, go_sem]) rfl ?_
  refine ⟨w.heap.size + 1, w.heap.size + 1 + 1, rfl, ?_⟩
  exact bpush (bpush (bpush (Below.refl _ _) _) _) _
def aL : List ByteArray := [⟨#[97]⟩]
def aM : List ByteArray := [⟨#[109]⟩]
def aN : ByteArray := ⟨#[108, 111, 103]⟩
instance (s : ByteArray) : Decidable (valueP s) := by unfold valueP; infer_instance
instance (s : ByteArray) : Decidable (valP s) := by unfold valP; infer_instance
theorem a_name : nameB aN = true := by decide +kernel
theorem a_val : valP ⟨#[120]⟩ := by decide
theorem a_right1 (E F : Option Addr) (p q x y : Nat) : rightJ aL aM ⟨false, 0, ⟨E, p, q, F, x, y, 3, [⟨#[120]⟩], [-4]⟩⟩ := by
  unfold rightJ
  rw [if_neg (by simp)]
  refine ⟨rfl, rfl, rfl, fun s hs => by rw [List.mem_singleton.1 hs]; exact a_val, fun v hv => by rw [List.mem_singleton.1 hv]; unfold greatZ; omega, by show (0 : Int) ≤ 3; omega, by show (3 : Int) ≤ _; omega⟩
theorem a_right2 (E F : Option Addr) (p q x y : Nat) : rightJ aL aM ⟨true, 9, ⟨E, p, q, F, x, y, 0, [], []⟩⟩ := by
  unfold rightJ
  rw [if_pos rfl]
  exact ⟨rfl, rfl, rfl, by show (0 : Int) ≤ 9; omega, by show (9 : Int) ≤ _; omega⟩
theorem Left.below' {w w' : World} {B a : Nat} {V V' : VZ} (h : VRep w B a V) (hl : Left w w' B a V V') (hB : B ≤ w.heap.size) : Below B w w' :=
  hl.fr.below hB fun i hi => (h.foot_lt hi).2
set_option maxRecDepth 100000 in
set_option maxHeartbeats 16000000 in
theorem alive_any (w : World) (hT : Tab w) : Calls Tryd.prog 8 #[] w fun e w' => e = .returned (.bool true) ∧ Below w.heap.size w w' := by
  have HT := Lib.hid hT
  clear hT
  go_enter Tryd.func8, Tryd.ntmps8
  go_upto_region 4 with (go_at_call 9; refine (newG_any 1000 w (by omega)).mono ?_; rintro e w1 ⟨vb, a, rfl, hv, hb⟩; have HV1 := Lib.hid hv; have HB1 := Lib.hid hb; clear hv hb)
  have HS1 := Lib.hid (schema_one w1)
  go_wp2_with fail
  refine HS1.out.mono ?_
  rintro e w2 ⟨g1, h1, rfl, hb2⟩
  obtain ⟨z1, hz1⟩ : ∃ z1 : EZ, z1 = ⟨false, 0, ⟨some ⟨w2.heap.size, 0, none⟩, 1, 1, some ⟨w2.heap.size + 1, 0, none⟩, 1, 1, 3, [⟨#[120]⟩], [-4]⟩⟩ := ⟨_, rfl⟩
  obtain ⟨w3, hw3⟩ : ∃ w3, w3 = (w2.alloc (.cells #[.string ⟨#[120]⟩] 9)).alloc (.cells #[.int .i64 (-4)] 3) := ⟨_, rfl⟩
  have hb3 : Below w2.heap.size w2 w3 := by rw [hw3]; exact bpush (bpush (Below.refl _ _) _) _
  have hev : EvG w3 z1.ev := by
    rw [hz1, hw3]
    refine ⟨(Row.made (w := w2) rfl rfl).keep (Nat.le_refl _) (bpush (Below.refl _ _) _), rfl, Nat.le_refl _, (fun h => by cases h), Row.made (by simp) rfl, rfl, fun s hs => by rw [List.mem_singleton.1 hs]; decide⟩
  have hr1 : rightJ aL aM z1 := by rw [hz1]; exact a_right1 _ _ _ _ _ _
  have hl1 := encJ_len hr1 (by decide) (by decide)
  have hl1' := blockL_len (encJ z1)
  have HB3 := Lib.hid (bthen HB1.out (bthen hb2 hb3))
  have HV3 := Lib.hid (HV1.out.below (bthen hb2 hb3))
  have HW1 := Lib.hid (jwell_any w.heap.size a (newZ 1000 vb) aN (some ⟨g1, 0, none⟩) (some ⟨h1, 0, none⟩) 1 1 1 1 aL aM z1 w3 (HT.out.keep HB3.out) HV3.out (by decide) hev rfl rfl (by omega) (by omega) (by rw [hz1]; show 1 ≤ _; omega) (by rw [hz1]; show 1 ≤ _; omega) rfl a_name
    (by show 0 + _ ≤ 1000; have h2 : aL.length = 1 := rfl; have h3 : aM.length = 1 := rfl; omega) (by show 0 < 200; omega) hr1)
  rw [hz1] at HW1
  have HZ1 := Lib.hid hz1
  have HR1 := Lib.hid hr1
  have HL1 := Lib.hid (show (blockL (encJ z1)).length ≤ 88 by have h2 : aL.length = 1 := rfl; have h3 : aM.length = 1 := rfl; omega)
  have HWW := Lib.hid hw3
  clear hw3 hb3 hb2 hev hr1 hl1 hl1' hz1
  go_upto_region 5 with (go_at_call 16; rw [← HWW.out]; refine HW1.out.mono ?_; rintro e w4 ⟨V1, rfl, hA1, hs1, hL1⟩; have HA1 := Lib.hid (show Appd (normZ (newZ 1000 vb)) (normZ V1) aN (blockL (encJ z1)) by rw [HZ1.out]; exact hA1); have HL4 := Lib.hid hL1; clear hA1 hs1 hL1)
  have HV4 := Lib.hid HL4.out.rep
  have HB4 := Lib.hid (HB3.out.trans (Left.below' HV3.out HL4.out HB3.out.size))
  have hF1 : V1.room = 1000 ∧ V1.armed = false ∧ usedF V1.F = (blockL (encJ z1)).length ∧ V1.F.length ≤ 1 := by
    have h1 := HA1.out.room
    have h2 := HA1.out.armed
    have h3 := HA1.out.used
    have h4 := HA1.out.len
    refine ⟨h1, h2, ?_, ?_⟩
    · rw [show (normZ V1).F = V1.F.map normF from rfl, norm_used] at h3
      rw [h3]; show 0 + _ = _; omega
    · rw [show (normZ V1).F = V1.F.map normF from rfl, List.length_map] at h4
      exact h4
  have HF1 := Lib.hid hF1
  clear hF1 HW1 HL4 HS1
  have HS2 := Lib.hid (schema_one w4)
  go_wp2_with fail
  refine HS2.out.mono ?_
  rintro e w5 ⟨g2, h2, rfl, hb5⟩
  obtain ⟨z2, hz2⟩ : ∃ z2 : EZ, z2 = ⟨true, 9, ⟨none, 0, 0, none, 0, 0, 0, [], []⟩⟩ := ⟨_, rfl⟩
  have hev : EvG w5 z2.ev := by
    rw [hz2]
    exact ⟨.inl rfl, rfl, Nat.le_refl _, (fun _ => rfl), .inl rfl, rfl, fun s hs => by cases hs⟩
  have hr2 : rightJ aL aM z2 := by rw [hz2]; exact a_right2 _ _ _ _ _ _
  have hl2 := encJ_len hr2 (by decide) (by decide)
  have hl2' := blockL_len (encJ z2)
  have HB5 := Lib.hid (bthen HB4.out hb5)
  have HV5 := Lib.hid (HV4.out.below hb5)
  have HW2 := Lib.hid (jwell_any w.heap.size a V1 aN (some ⟨g2, 0, none⟩) (some ⟨h2, 0, none⟩) 1 1 1 1 aL aM z2 w5 (HT.out.keep HB5.out) HV5.out (by decide) hev rfl rfl (by omega) (by omega) (by rw [hz2]; show 0 ≤ _; omega) (by rw [hz2]; show 0 ≤ _; omega) HF1.out.2.1 a_name
    (by rw [HF1.out.1, HF1.out.2.2.1]; have h1 := HL1.out; have h2 : aL.length = 1 := rfl; have h3 : aM.length = 1 := rfl; omega) (by have := HF1.out.2.2.2; omega) hr2)
  rw [hz2] at HW2
  have HZ2 := Lib.hid hz2
  have HR2 := Lib.hid hr2
  clear hb5 hev hr2 hl2 hl2' hz2 HS2
  go_upto_region 6 with (go_at_call 16; refine HW2.out.mono ?_; rintro e w6 ⟨V2, rfl, hA2, hs2, hL2⟩; have HA2 := Lib.hid hA2; have HL6 := Lib.hid hL2; clear hA2 hs2 hL2)
  have HV6 := Lib.hid HL6.out.rep
  have HB6 := Lib.hid (HB5.out.trans (Left.below' HV5.out HL6.out HB5.out.size))
  obtain ⟨bs, hbs⟩ : ∃ bs, bs = flatJ [z1, z2] := ⟨_, rfl⟩
  have HBS := Lib.hid hbs
  have HCN := Lib.hid (show bs = (lkF V2.F aN).bs from by
    have h1 := HA2.out.cnt
    rw [← HZ2.out, HA1.out.cnt] at h1
    rw [← cnt_norm, h1, hbs]
    simp [flatJ, cntZ, lkF, lookF, newZ, normZ])
  have HRA := Lib.hid (show ∀ z ∈ [z1, z2], rightJ aL aM z from fun z hz => by
    rcases List.mem_cons.1 hz with rfl | hz
    · exact HR1.out
    · rw [List.mem_singleton.1 hz]; exact HR2.out)
  have hbl : bs.length ≤ 9000 := by rw [hbs]; exact flatJ_len (by decide) (by decide) HRA.out
  have HS3 := Lib.hid (schema_one w6)
  clear hbs HW2 HL6 HA1 HA2
  go_wp2_with fail
  refine HS3.out.mono ?_
  rintro e w7 ⟨g3, h3, rfl, hb7⟩
  have HB7 := Lib.hid (bthen HB6.out hb7)
  have HV7 := Lib.hid (HV6.out.below hb7)
  have HRD := Lib.hid (jread_any w.heap.size a V2 aN (some ⟨g3, 0, none⟩) (some ⟨h3, 0, none⟩) 1 1 1 1 aL aM w7 (HT.out.keep HB7.out) HV7.out (by decide) rfl rfl (by omega) (by omega) bs HCN.out (by omega))
  clear hb7 HS3
  go_wp2_with fail
  refine HRD.out.mono ?_
  rintro e w8 ⟨A, c, Z, k, rfl, hZ, hlc, hnil, hrun, hkb, hb8⟩
  obtain ⟨hsame, hk⟩ := hrun.one (by rw [HBS.out]; exact run_all (by decide) (by decide) HRA.out)
  rw [← HBS.out] at hk
  subst hk
  have h2 : Z.length = 2 := hsame.len
  obtain ⟨y1, y2, rfl⟩ : ∃ y1 y2, Z = [y1, y2] := by
    match Z, h2 with
    | [y1, y2], _ => exact ⟨y1, y2, rfl⟩
  have HB8 := Lib.hid (bthen HB7.out hb8)
  have HV8 := Lib.hid (HV7.out.below hb8)
  have HZZ := Lib.hid hZ
  have HSM := Lib.hid hsame
  have HVR := Lib.hid (read_any w.heap.size a V2 aN w8 HV8.out (by decide))
  rw [show ([y1, y2] : List EZ).length = 2 from rfl]
  clear hZ hsame hnil hrun hkb hb8 hlc HRD h2
  go_upto_region 8 with (go_at_call 25; refine HVR.out.mono ?_; rintro e w9 ⟨D, n9, k9, rfl, ho9, hn9, hn92, hb9⟩; have HB9 := Lib.hid hb9; have HN9 := Lib.hid hn9; clear ho9 hb9 hn9)
  have hn9 : n9 = bs.length := by rw [HN9.out, ← HCN.out]
  subst hn9
  have HZ9 := Lib.hid (HZZ.out.keep (Nat.le_refl _) HB9.out)
  obtain ⟨b, off, hAe, c0, c1, c2, c3, c4⟩ := HZ9.out.at (k := 0) (by simp)
  obtain ⟨b', off', hAe', d0, d1, d2, d3, d4⟩ := HZ9.out.at (k := 1) (by simp)
  rw [hAe] at hAe'
  cases hAe'
  have hX1 : y1.ev.X = [-4] := by have := HSM.out.1.X; rw [HZ1.out] at this; exact this
  have hT2 : y2.tick = true := by have := HSM.out.2.1.tick; rw [HZ2.out] at this; exact this
  have hN2 : y2.now = 9 := by have := HSM.out.2.1.now; rw [HZ2.out] at this; exact this
  have hg1 := HZ9.out.good y1 (by simp)
  have hx1 : y1.ev.x = 1 := by rw [hg1.nx, hX1]; rfl
  obtain ⟨bx, ox, hFe, cx⟩ := Row.cell (k := .i64) (i := 0) (show Row w9 y1.ev.F (y1.ev.X.map (Value.int .i64)) from hg1.rx) (by rw [hX1]; simp)
  simp only [List.getElem_cons_zero, List.getElem_cons_succ] at c4 d0 d1
  rw [hFe, hx1] at c4
  rw [hT2] at d0
  rw [hN2] at d1
  simp only [hX1] at cx
  subst hAe
  rw [Nat.add_zero] at cx
  simp only [List.getElem_cons_zero] at cx
  rw [Nat.zero_mul, Nat.add_zero] at c4
  rw [Nat.one_mul] at d0 d1
  clear c0 c1 c2 c3 d2 d3 d4 hX1 hT2 hN2 hg1 hx1 hFe
  go_wp2_with fail
  go_ret
  exact ⟨rfl, bthen HB8.out HB9.out⟩
end Go.Proofs.YthogafecplhckaaDoor
