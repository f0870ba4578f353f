/- Crash and Copy: vaults of their own. -/
import Derived.Test.YtaahomohhagcoaaM
namespace Go.Proofs.Ytaahomohhagcoaa
open Go.RowKit Go.Maps Go.Shelf Go.Lib
set_option linter.unusedSimpArgs false
set_option linter.unusedVariables false
def kC (t : Int) (n s : Nat) : Nat × Nat := if s ≤ n then (kOf t n s, kOf t n s) else (n, n)
def kI (n s : Nat) : Nat × Nat := (n, s)
theorem kOf_le {t : Int} {n s : Nat} (h : s ≤ n) : kOf t n s ≤ n := by unfold kOf; omega
theorem kC_le (t : Int) (n s : Nat) : (kC t n s).1 ≤ n := by
  unfold kC; split
  · exact kOf_le (by assumption)
  · exact Nat.le_refl _
theorem kC_2 (t : Int) (n s : Nat) : (kC t n s).2 ≤ (kC t n s).1 := by unfold kC; split <;> exact Nat.le_refl _
def crashS (t : Int) (P : VZ) : VZ := likeS (kC t) P
def copyS (P : VZ) : VZ := { likeS kI P with armed := P.armed, fuse := P.fuse }
/-- A vault of its own, told up to where it lies. -/
def OwnPost (w : World) (P : VZ) (e : Ending) (w' : World) : Prop :=
  ∃ a V, e = .returned (.pointer (some ⟨a, 0, none⟩)) ∧ normZ V = P ∧ VRep w' w.heap.size a V ∧ Below w.heap.size w w'
theorem VRep.lower {w : World} {B B' a : Nat} {V : VZ} (h : VRep w B a V) (hB : B' ≤ B) : VRep w B' a V :=
  { h with own := fun f hf => by have := h.own f hf; exact own_less this hB, ba := Nat.le_trans hB h.ba, bb := Nat.le_trans hB h.bb }
set_option maxRecDepth 100000 in
set_option maxHeartbeats 4000000 in
theorem crash_any (B a : Nat) (V : VZ) (t : Int) (w : World) (h : VRep w B a V) (h1 : -9223372036854775808 ≤ t) (h2 : t ≤ 9223372036854775807) :
    Calls Try.prog 15 #[.pointer (some ⟨a, 0, none⟩), .int .i64 t] w (OwnPost w (crashS t (normZ V))) := by
  obtain ⟨w1, hw1⟩ : ∃ w1, w1 = w.alloc (.cells #[.int .i64 t] 3) := ⟨_, rfl⟩
  have hb1 : Below w.heap.size w w1 := by rw [hw1]; exact bpush (Below.refl _ _) _
  have hk : w1.cell? ⟨w.heap.size, 0, none⟩ = some (.int .i64 t) := by rw [hw1]; exact cell_made rfl rfl
  have HL := Lib.hid (like_any (kC t) 36 #[.pointer (some ⟨w.heap.size, 0, none⟩)] B a V w1 (h.below hb1) (fun n s _ => ⟨kC_le t n s, kC_2 t n s⟩) (kC_le t) enter36 (fun W A n c safe hb hs hc ha hn => by
    have := crash1_any w.heap.size t A n c safe W (cell_on hb hk) hs hc ha hn h1 h2
    unfold kC
    rw [if_pos hs]
    exact this))
  have HB1 := Lib.hid hb1
  have HW1 := Lib.hid hw1
  clear hb1 hk h hw1
  go_enter Try.func15, Try.ntmps15
  go_upto_region 1 with fail
  rw [← HW1.out]
  go_wp2_with (go_at_call 35; refine HL.out.mono ?_; rintro e w2 ⟨V2, rfl, hn2, hv2, hb2⟩; have HN2 := Lib.hid hn2; have HV2 := Lib.hid hv2; have HB2 := Lib.hid hb2; clear hn2 hv2 hb2)
  go_ret
  exact ⟨_, V2, rfl, HN2.out, HV2.out.lower HB1.out.size, bthen HB1.out HB2.out⟩
theorem copyS_norm (V : VZ) : True := trivial
set_option maxRecDepth 100000 in
set_option maxHeartbeats 8000000 in
theorem copy_any (B a : Nat) (V : VZ) (w : World) (h : VRep w B a V) :
    Calls Try.prog 17 #[.pointer (some ⟨a, 0, none⟩)] w (OwnPost w (copyS (normZ V))) := by
  have HL := Lib.hid (like_any kI 37 #[] B a V w h (fun n s hs => ⟨Nat.le_refl _, hs⟩) (fun n s => Nat.le_refl _) enter37 (fun W A n c safe hb hs hc ha hn => copy1_any A n c safe W))
  have HH := Lib.hid h
  clear h
  go_enter Try.func17, Try.ntmps17
  go_upto_region 4 with (go_at_call 35; refine HL.out.mono ?_; rintro e w2 ⟨V2, rfl, hn2, hv2, hb2⟩; have HN2 := Lib.hid hn2; have HV2 := Lib.hid hv2; have HB2 := Lib.hid hb2; clear hn2 hv2 hb2)
  obtain ⟨c, hc⟩ : ∃ c, c = w.heap.size + 1 := ⟨_, rfl⟩
  have HC := Lib.hid hc
  rw [← hc] at HV2 ⊢
  clear hc
  have HA := Lib.hid (HH.out.below HB2.out)
  have hca : c ≠ a := by have := HH.out.core.la; have := HC.out; omega
  have HCA := Lib.hid hca
  have ha3 := HA.out.core.blk.cell 3
  have ha4 := HA.out.core.blk.cell 4
  have hf3 := HV2.out.core.blk.frozen 3
  have hf4 := HV2.out.core.blk.frozen 4
  have hc3 := HV2.out.core.blk.cell 3
  have hc4 := HV2.out.core.blk.cell 4
  simp at ha3 ha4 hc3 hc4
  go_region
  go_wp2_with fail
  go_ret
  obtain ⟨w3, hw3⟩ : ∃ w3, w3 = (w2.setCell ⟨c, 3, none⟩ (.bool V.armed)).setCell ⟨c, 4, none⟩ (.int .i64 V.fuse) := ⟨_, rfl⟩
  have h1 := HV2.out.core.set 3 (.bool V.armed) { V2 with armed := V.armed } (by simp) rfl rfl HV2.out.core.room HV2.out.core.fuse
  have h2 := h1.set 4 (.int .i64 V.fuse) { V2 with armed := V.armed, fuse := V.fuse } (by simp) rfl rfl HV2.out.core.room HH.out.core.fuse
  rw [← hw3] at h2 ⊢
  have hf : Fr (fun i => i = c) w2 w3 := by
    rw [hw3]
    exact ((Fr.refl (fun i => i = c) w2).set_ (.inl (show c = c from rfl)) _).set_ (.inl (show c = c from rfl)) _
  have h3 := HV2.out.turn h2 hf rfl rfl rfl
  have hb3 : Below w.heap.size w w3 := ((Fr.of_below (S := fun i => i = c) HB2.out).trans hf).below (Nat.le_refl _) (fun i hi => by have := HC.out; omega)
  refine ⟨c, { V2 with armed := V.armed, fuse := V.fuse }, rfl, ?_, h3.below (below_drewN (Below.refl _ _) 1), below_drewN hb3 1⟩
  have hn := HN2.out
  unfold copyS
  rw [← hn]
  rfl
end Go.Proofs.Ytaahomohhagcoaa
