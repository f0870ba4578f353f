/- A block that is known whole; the closure that puts a bit. -/
import Derived.Test.YtedldajlioeioaaNC
import Derived.Deep.Draws
import Derived.Laws.Rows
import Derived.Deep.RegionHeld3
import Derived.IntWalk
import Derived.StillTailTactics
namespace Go.Proofs.Ytedldajlioeioaa
open Go.RowKit
set_option linter.unusedSimpArgs false
def Blk (w : World) (g : Nat) (t : TypeId) (cs : Array Value) : Prop := w.heap[g]? = some (.cells cs t (0, 0))
section
variable {w w' : World} {g : Nat} {t : TypeId} {cs : Array Value}
theorem Blk.lt (h : Blk w g t cs) : g < w.heap.size := by
  rcases Nat.lt_or_ge g w.heap.size with hlt | hge
  · exact hlt
  · unfold Blk at h; rw [Array.getElem?_eq_none hge] at h; cases h
theorem Blk.cell (h : Blk w g t cs) (i : Nat) : w.cell? ⟨g, i, none⟩ = cs[i]? := cell_of_row w g i cs t (0, 0) h
theorem Blk.frozen (h : Blk w g t cs) (i : Nat) : w.frozen? ⟨g, i, none⟩ = false := by
  unfold Blk at h
  simp [World.frozen?, h]
theorem Blk.new (w : World) (t : TypeId) (cs : Array Value) : Blk (w.alloc (.cells cs t)) w.heap.size t cs := heap_alloc_new w _
theorem Blk.drew (h : Blk w g t cs) : Blk w.drew g t cs := h
theorem Blk.drewN (h : Blk w g t cs) (n : Nat) : Blk (w.drewN n) g t cs := h
theorem Blk.alloc (h : Blk w g t cs) (o : Obj) : Blk (w.alloc o) g t cs := (Below.heap_alloc w o g h.lt).trans h
theorem Blk.set_ (h : Blk w g t cs) (i : Nat) (u : Value) : Blk (w.setCell ⟨g, i, none⟩ u) g t (cs.setIfInBounds i u) := by
  unfold Blk at h ⊢
  simp [World.setCell, Array.getElem?_modify, h]
theorem Blk.far (h : Blk w g t cs) {p : Addr} (hp : g ≠ p.block) (u : Value) : Blk (w.setCell p u) g t cs := (Below.heap_setCell w p u g hp).trans h
theorem Blk.below {B : Nat} (h : Blk w g t cs) (hb : Below B w w') (hg : g < B) : Blk w' g t cs := (hb.block g hg).trans h
theorem Blk.ne_ {g' : Nat} {t' : TypeId} {cs' : Array Value} (h : Blk w g t cs) (h' : Blk w g' t' cs') (hne : t ≠ t') : g ≠ g' := by
  rintro rfl
  unfold Blk at h h'
  rw [h] at h'
  injection h' with h'
  injection h' with _ ht
  exact hne ht
end
def u8s (l : List Int) : Array Value := (l.map (Value.int .u8)).toArray
theorem u8s_cell {l : List Int} {i : Nat} {x : Int} (h : l[i]? = some x) : (u8s l)[i]? = some (.int .u8 x) := by simp [u8s, h]
theorem u8s_set (l : List Int) (i : Nat) (x : Int) : (u8s l).setIfInBounds i (.int .u8 x) = u8s (l.set i x) := by
  simp [u8s, List.map_set]
/-- So many bits are packed: the bytes, the slice in its box, the count in its box. -/
def PutSt (w : World) (g pb pa size : Nat) (f : Nat → Nat) (t : Nat) : Prop :=
  Blk w g 5 (u8s (packS f t size)) ∧ Blk w pb 24 #[.slice (some ⟨g, 0, none⟩) size size] ∧ Blk w pa 3 #[.int .i64 (t : Int)]
theorem or_bit {a b s : Nat} (h : a < 2 ^ s) (hs : s < 8) (hb : b ≤ 1) : bits .or .u8 (a : Int) ((b * 2 ^ s : Nat) : Int) = ((a + b * 2 ^ s : Nat) : Int) := by
  have h1 : 2 ^ s ≤ 2 ^ 7 := Nat.pow_le_pow_right (by omega) (by omega)
  have h2 : b * 2 ^ s ≤ 1 * 2 ^ s := Nat.mul_le_mul_right _ hb
  rw [u8_or_nat _ _ (by omega) (by omega), Nat.or_comm, nat_join s _ _ (by simp) h, Nat.add_comm]
set_option maxHeartbeats 1000000 in
theorem put_any (g pb pa size : Nat) (f : Nat → Nat) (t b : Nat) (w : World) (hf : ∀ k, f k ≤ 1) (hS : PutSt w g pb pa size f t) (ht : t < 8 * size) (hsz : size ≤ 1000000) (hb : f t = b) :
    Calls Try.prog 37 #[.int .u8 (b : Nat), .pointer (some ⟨pb, 0, none⟩), .pointer (some ⟨pa, 0, none⟩)] w fun e w' => e = .returned (.tuple #[]) ∧ PutSt w' g pb pa size f (t + 1) ∧ ∀ B, B ≤ g → B ≤ pa → Below B w w' := by
  obtain ⟨h1, h2, h3⟩ := hS
  have hgb := h1.ne_ h2 (by decide)
  have hga := h1.ne_ h3 (by decide)
  have hab := h3.ne_ h2 (by decide)
  have hb1 : b ≤ 1 := by rw [← hb]; exact hf t
  have hq : t / 8 < size := by omega
  have hcg : w.cell? ⟨g, t / 8, none⟩ = some (.int .u8 (byteF f t (t / 8) : Nat)) := by rw [h1.cell]; exact u8s_cell (packS_get hq)
  have hcb : w.cell? ⟨pb, 0, none⟩ = some (.slice (some ⟨g, 0, none⟩) size size) := h2.cell 0
  have hca : w.cell? ⟨pa, 0, none⟩ = some (.int .i64 (t : Int)) := h3.cell 0
  have hfg := h1.frozen (t / 8)
  have hfa := h3.frozen 0
  have hor := or_bit (byteF_small hf t) (by omega : t % 8 < 8) hb1
  obtain ⟨y, hy⟩ : ∃ y, y = byteF f t (t / 8) := ⟨_, rfl⟩
  rw [← hy] at hcg hor
  obtain ⟨q, hqq⟩ : ∃ q, q = t / 8 := ⟨_, rfl⟩
  obtain ⟨r, hrr⟩ : ∃ r, r = t % 8 := ⟨_, rfl⟩
  have hr8 : r < 8 := by omega
  rw [← hqq] at hcg hfg hq
  rw [← hrr] at hor
  have hwq : IntKind.i64.wrap (q : Int) = (q : Int) := IntWalk.i64_in _ (by omega)
  have hqn : ((q : Int)).toNat = q := Int.toNat_natCast q
  have hwq2 : (t : Int).tdiv 8 = (q : Int) := by rw [Int.tdiv_eq_ediv_of_nonneg (by omega)]; omega
  have hwr : (t : Int).tmod 8 = (r : Int) := by rw [Int.tmod_eq_emod_of_nonneg (by omega)]; omega
  have hq0 : (0 : Int) ≤ (q : Int) := by omega
  have hq1 : (q : Int) < (size : Int) := by omega
  have hr0 : (0 : Int) ≤ (r : Int) := by omega
  have hr1 : (r : Int) < 8 := by omega
  have hs128 : b * 2 ^ r ≤ 128 := by
    have h1 : 2 ^ r ≤ 2 ^ 7 := Nat.pow_le_pow_right (by omega) (by omega)
    have h2 : b * 2 ^ r ≤ 1 * 2 ^ r := Nat.mul_le_mul_right _ hb1
    omega
  obtain ⟨s, hss⟩ : ∃ s, s = b * 2 ^ r := ⟨_, rfl⟩
  rw [← hss] at hor hs128
  have hws : IntKind.u8.wrap ((b : Int) * 2 ^ r) = (s : Int) := by
    have : (b : Int) * 2 ^ r = ((b * 2 ^ r : Nat) : Int) := by rw [Int.natCast_mul, Int.natCast_pow]; rfl
    rw [this, ← hss, IntKind.wrap_u8']; omega
  obtain ⟨z, hzz⟩ : ∃ z, z = y + s := ⟨_, rfl⟩
  rw [← hzz] at hor
  have HS := Lib.hid hss
  have HZ := Lib.hid hzz
  clear hss hzz
  have HQ := Lib.hid hqq
  have HR := Lib.hid hrr
  have HY := Lib.hid hy
  have HB := Lib.hid hb
  clear hqq hrr hy hb hs128
  go_enter Try.func37, Try.ntmps37
  go_wp2_with fail
  go_still_tail 11, (by kernel_rfl)
  change wpList _ _ _ _ _ w.drew
  generalize hwd : w.drew = w2
  have hcg2 : w2.cell? ⟨g, q, none⟩ = some (.int .u8 (y : Nat)) := by rw [← hwd]; exact hcg
  have hcb2 : w2.cell? ⟨pb, 0, none⟩ = some (.slice (some ⟨g, 0, none⟩) size size) := by rw [← hwd]; exact hcb
  have hca2 : w2.cell? ⟨pa, 0, none⟩ = some (.int .i64 (t : Int)) := by rw [← hwd]; exact hca
  have hfg2 : w2.frozen? ⟨g, q, none⟩ = false := by rw [← hwd]; exact hfg
  have hfa2 : w2.frozen? ⟨pa, 0, none⟩ = false := by rw [← hwd]; exact hfa
  go_wp2
  go_end0
  refine ⟨rfl, ⟨?_, ?_, ?_⟩, fun B hB1 hB2 => ?_⟩
  · rw [← hwd]
    have h := ((h1.drew).set_ q (.int .u8 (z : Nat))).far (p := ⟨pa, 0, none⟩) hga (.int .i64 ((t : Int) + 1))
    rw [u8s_set] at h
    rw [packS_step (by have := HQ.out; omega), HB.out, ← HY.out, ← HQ.out, ← HR.out, ← HS.out, ← HZ.out]
    exact h
  · rw [← hwd]
    exact ((h2.drew).far (p := ⟨g, q, none⟩) (Ne.symm hgb) _).far (p := ⟨pa, 0, none⟩) (Ne.symm hab) _
  · rw [← hwd]
    exact ((h3.drew).far (p := ⟨g, q, none⟩) (Ne.symm hga) _).set_ 0 _
  · rw [← hwd]
    exact (((Below.refl B w).drew).setCell (p := ⟨g, q, none⟩) hB1 _).setCell (p := ⟨pa, 0, none⟩) hB2 _
end Go.Proofs.Ytedldajlioeioaa
