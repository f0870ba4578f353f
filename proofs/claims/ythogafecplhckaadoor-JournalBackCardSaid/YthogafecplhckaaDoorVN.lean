/- Crash and Copy: vaults of their own. -/
import Derived.Test.YthogafecplhckaaDoorVM
namespace Go.Proofs.YthogafecplhckaaDoor
open Go.RowKit Go.Maps Go.Shelf Go.Lib
set_option linter.unusedSimpArgs false
set_option linter.unusedVariables false
def kC (t : Int) (n s : Nat) : Nat × Nat := if s ≤ n then (kOf t n s, kOf t n s) else (n, n)
def kI (n s : Nat) : Nat × Nat := (n, s)
theorem kOf_le {t : Int} {n s : Nat} (h : s ≤ n) : kOf t n s ≤ n := by unfold kOf; omega
theorem kC_le (t : Int) (n s : Nat) : (kC t n s).1 ≤ n := by
  unfold kC; split
  · exact kOf_le (by assumption)
  · exact Nat.le_refl _
theorem kC_2 (t : Int) (n s : Nat) : (kC t n s).2 ≤ (kC t n s).1 := by unfold kC; split <;> exact Nat.le_refl _
def crashS (t : Int) (P : VZ) : VZ := likeS (kC t) P
def copyS (P : VZ) : VZ := { likeS kI P with armed := P.armed, fuse := P.fuse }
/-- A vault of its own, told up to where it lies. -/
def OwnPost (w : World) (P : VZ) (e : Ending) (w' : World) : Prop :=
  ∃ a V, e = .returned (.pointer (some ⟨a, 0, none⟩)) ∧ normZ V = P ∧ VRep w' w.heap.size a V ∧ Below w.heap.size w w'
theorem VRep.lower {w : World} {B B' a : Nat} {V : VZ} (h : VRep w B a V) (hB : B' ≤ B) : VRep w B' a V :=
  { h with own := fun f hf => by have := h.own f hf; exact own_less this hB, ba := Nat.le_trans hB h.ba, bb := Nat.le_trans hB h.bb }
set_option maxRecDepth 100000 in
set_option maxHeartbeats 4000000 in
theorem crash_any (B a : Nat) (V : VZ) (t : Int) (w : World) (h : VRep w B a V) (h1 : -9223372036854775808 ≤ t) (h2 : t ≤ 9223372036854775807) :
    Calls Tryd.prog 18 #[.pointer (some ⟨a, 0, none⟩), .int .i64 t] w (OwnPost w (crashS t (normZ V))) := by
  obtain ⟨w1, hw1⟩ : ∃ w1, w1 = w.alloc (.cells #[.int .i64 t] 3) := ⟨_, rfl⟩
  have hb1 : Below w.heap.size w w1 := by rw [hw1]; exact bpush (Below.refl _ _) _
  have hk : w1.cell? ⟨w.heap.size, 0, none⟩ = some (.int .i64 t) := by rw [hw1]; exact cell_made rfl rfl
  have HL := Lib.hid (like_any (kC t) 38 #[.pointer (some ⟨w.heap.size, 0, none⟩)] B a V w1 (h.below hb1) (fun n s _ => ⟨kC_le t n s, kC_2 t n s⟩) (kC_le t) enter36 (fun W A n c safe hb hs hc ha hn => by
    have := crash1_any w.heap.size t A n c safe W (cell_on hb hk) hs hc ha hn h1 h2
    unfold kC
    rw [if_pos hs]
    exact this))
  have HB1 := Lib.hid hb1
  have HW1 := Lib.hid hw1
  clear hb1 hk h hw1
  go_enter Tryd.func18, Tryd.ntmps18
  go_upto_region 1 with fail
  rw [← HW1.out]
  go_wp2_with (go_at_call 37; refine HL.out.mono ?_; rintro e w2 ⟨V2, rfl, hn2, hv2, hb2⟩; have HN2 := Lib.hid hn2; have HV2 := Lib.hid hv2; have HB2 := Lib.hid hb2; clear hn2 hv2 hb2)
  go_ret
  exact ⟨_, V2, rfl, HN2.out, HV2.out.lower HB1.out.size, bthen HB1.out HB2.out⟩
theorem copyS_norm (V : VZ) : True := trivial
end Go.Proofs.YthogafecplhckaaDoor
