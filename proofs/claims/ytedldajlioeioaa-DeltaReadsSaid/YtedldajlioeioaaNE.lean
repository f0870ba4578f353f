/- nibble.Pack: numbers that are packed. -/
import Derived.Test.YtedldajlioeioaaND
import Derived.Deep.OwnRows
namespace Go.Proofs.Ytedldajlioeioaa
open Go.RowKit
set_option linter.unusedSimpArgs false
theorem Try.info36 : (Try.prog.info? 36).map (fun i => (i.zero, i.size, i.bytes)) = some (some (.int .u64 0), 1, 8) := by kernel_rfl
theorem made_zero (f : Nat → Nat) (size : Nat) : madeCells #[.int .u8 0] size = u8s (packS f 0 size) := by
  apply Array.ext'
  rw [toList_madeCells_one, packS_zero]
  simp [u8s]
def sizeN (n W : Nat) : Nat := (n * W + 7) / 8
/-- What packing answers. -/
def Packed (w : World) (xs : List Int) (e : Ending) (w' : World) : Prop :=
  ∃ g, e = .returned (.tuple #[.slice (some ⟨g, 0, none⟩) xs.length xs.length, .int .i64 0]) ∧ w.heap.size ≤ g ∧ Blk w' g 5 (u8s xs) ∧ Below w.heap.size w w'
def packL (L : List Nat) (W : Nat) : List Int := packS (bitL L W) (L.length * W) (sizeN L.length W)
theorem and_bit (x i : Nat) (h : x < 18446744073709551616) : bits .and .u64 ((x : Int) / 2 ^ i) 1 = ((x / 2 ^ i % 2 : Nat) : Int) := by
  have e : ((x : Int) / 2 ^ i) = ((x / 2 ^ i : Nat) : Int) := by rw [Int.natCast_ediv, Int.natCast_pow]; rfl
  have h2 : x / 2 ^ i ≤ x := Nat.div_le_self _ _
  rw [e, show (1 : Int) = ((1 : Nat) : Int) from rfl, u64_and_nat _ _ (by omega) (by omega)]
  simp
set_option maxHeartbeats 2000000 in
theorem pack_good (A : Option Addr) (n c : Nat) (L : List Nat) (W : Nat) (w : World) (hA : Row w A (u64s L)) (hn : n ≤ 65536) (hz : n = L.length) (hs : small L) (hW : W ≤ 64) (hw : widthN L ≤ W) :
    Calls Try.prog 18 #[.slice A n c, .int .i64 (W : Nat)] w (Packed w (packL L W)) := by
  obtain ⟨S, hS⟩ : ∃ S, S = sizeN n W := ⟨_, rfl⟩
  have hSi : ((n : Int) * (W : Int) + 7) / 8 = (S : Int) := by rw [hS]; unfold sizeN; rw [Int.natCast_ediv, Int.natCast_add, Int.natCast_mul]; rfl
  have hnW : n * W ≤ 65536 * 64 := Nat.mul_le_mul hn hW
  have hS1 : S ≤ 524289 := by rw [hS]; unfold sizeN; omega
  have hS8 : n * W ≤ 8 * S := by rw [hS]; unfold sizeN; omega
  have H8 := Lib.hid hS8
  have HZ := Lib.hid hz
  have HSM := Lib.hid hs
  have HS := Lib.hid hS
  have HSI := Lib.hid hSi
  have HA := Lib.hid hA
  have HW := Lib.hid hw
  have hmk := fun V => run_make_row' (P := Try.prog) 24 5 (.int .u8 0) 1 Try.underlying24 Try.info5 rfl .i64 .i64 S (by omega) (by omega) V
  clear hS8 hz hs hS hSi hnW hw
  have hn0 : (n : Int) ≤ 65536 := by omega
  go_enter Try.func18, Try.ntmps18
  go_wp2_with fail
  refine (size_good _ _ _ (by omega) hn0 (by omega) (by omega)).mono ?_
  rintro e w1 ⟨rfl, rfl⟩
  rw [HSI.out]
  go_wp2_with fail
  refine (width_any A n c L _ HA.out (by omega) HZ.out HSM.out).mono ?_
  rintro e w1 ⟨rfl, rfl⟩
  obtain ⟨V, hV⟩ : ∃ V, V = widthN L := ⟨_, rfl⟩
  have hVW : V ≤ W := by have := HW.out; omega
  rw [← hV]
  have hVd : decide (W < V) = false := by simp; omega
  clear hV HSI
  go_wp2_with fail
  obtain ⟨B, hB⟩ : ∃ B, B = w.heap.size := ⟨_, rfl⟩
  have hst : PutSt (((w.alloc (Obj.cells (madeCells #[Value.int IntKind.u8 0] S) 5)).alloc (Obj.cells #[Value.slice (some { block := w.heap.size, off := 0 }) S S] 24)).alloc (Obj.cells #[Value.int IntKind.i64 0] 3)) w.heap.size (w.heap.size + 1) (w.heap.size + 1 + 1) S (bitL L W) 0 := by
    refine ⟨?_, ?_, ?_⟩
    · rw [← made_zero]; exact (((Blk.new w 5 _).alloc _).alloc _)
    · have := (Blk.new (w.alloc (Obj.cells (madeCells #[Value.int IntKind.u8 0] S) 5)) 24 #[Value.slice (some { block := w.heap.size, off := 0 }) S S]).alloc (.cells #[.int .i64 0] 3)
      simpa using this
    · have := Blk.new ((w.alloc (Obj.cells (madeCells #[Value.int IntKind.u8 0] S) 5)).alloc (Obj.cells #[Value.slice (some { block := w.heap.size, off := 0 }) S S] 24)) 3 #[.int .i64 0]
      simpa using this
  have hbl : Below w.heap.size w (((w.alloc (Obj.cells (madeCells #[Value.int IntKind.u8 0] S) 5)).alloc (Obj.cells #[Value.slice (some { block := w.heap.size, off := 0 }) S S] 24)).alloc (Obj.cells #[Value.int IntKind.i64 0] 3)) :=
    bpush (bpush (bpush (Below.refl _ _) _) _) _
  have HST := Lib.hid hst
  have HBL := Lib.hid hbl
  rw [← hB] at HST HBL ⊢
  generalize ((w.alloc (Obj.cells (madeCells #[Value.int IntKind.u8 0] S) 5)).alloc (Obj.cells #[Value.slice (some { block := B, off := 0 }) S S] 24)).alloc (Obj.cells #[Value.int IntKind.i64 0] 3) = w3 at HST HBL ⊢
  have HB := Lib.hid hB
  clear hB hst hbl hmk hVW hVd
  go_loopw [12, 13, 33, 34, 35, 36, 37, 38] (fun _ _ i _ _ _ _ _ wr => ∃ k t : Nat, k ≤ n ∧ i = .int .i64 k ∧ Hid (t = k * W) ∧ Hid (PutSt wr B (B + 1) (B + 1 + 1) S (bitL L W) t) ∧ Hid (Below B w wr))
    (fun _ _ i _ _ _ _ _ _ => n - (intOf i).toNat)
  case atStart => exact ⟨0, 0, Nat.zero_le _, rfl, Lib.hid (by simp : 0 = 0 * W), HST, HBL⟩
  case round =>
    obtain ⟨k, t, hk, rfl, HT, HP, HBW⟩ := hrel
    clear HST HBL
    by_cases hlt : k < n
    · have hkz : k < L.length := by have := HZ.out; omega
      obtain ⟨b, off, hA', hcell⟩ := u64s_cell (HA.out.keep (Nat.le_of_eq HB.out.symm) HBW.out) hkz
      obtain ⟨x, hx⟩ : ∃ x, x = L[k] := ⟨_, rfl⟩
      have hxs : x < 18446744073709551616 := HSM.out x (by rw [hx]; exact List.getElem_mem _)
      have hxg : x = L.getD k 0 := by rw [hx, List.getD_eq_getElem?_getD, List.getElem?_eq_getElem hkz]; rfl
      rw [← hx] at hcell
      have HX := Lib.hid hxg
      clear hx hxg hkz
      subst hA'
      go_wp2_with fail
      go_loopw [13, 38, 39, 40, 41, 42, 43, 44, 45, 46, 47, 48] (fun _ i _ _ _ _ _ _ _ _ _ _ wq => ∃ j s : Nat, j ≤ W ∧ i = .int .i64 j ∧ Hid (s = k * W + j) ∧ Hid (PutSt wq B (B + 1) (B + 1 + 1) S (bitL L W) s) ∧ Hid (Below B w wq))
        (fun _ i _ _ _ _ _ _ _ _ _ _ _ => W - (intOf i).toNat)
      case atStart => exact ⟨0, t, Nat.zero_le _, rfl, Lib.hid (by rw [HT.out]; rfl), HP, HBW⟩
      case round =>
        obtain ⟨j, s, hj, rfl, HSS, HPS, HBS⟩ := hrel
        by_cases hjl : j < W
        · obtain ⟨y, hy⟩ : ∃ y, y = x / 2 ^ j % 2 := ⟨_, rfl⟩
          have hab := and_bit x j hxs
          rw [← hy] at hab
          have hy1 : y ≤ 1 := by omega
          have HBIT := Lib.hid (show bitL L W s = y by rw [HSS.out, bitL_at hjl, ← HX.out, hy])
          have HLT := Lib.hid (show s < 8 * S by
            have h1 := H8.out
            have h2 : (k + 1) * W ≤ n * W := Nat.mul_le_mul_right _ hlt
            rw [Nat.succ_mul] at h2
            have := HSS.out; omega)
          clear hy
          go_wp2_with fail
          refine (put_any B (B + 1) (B + 1 + 1) S (bitL L W) s y _ (bitL_le L W) HPS.out HLT.out (by omega) HBIT.out).mono ?_
          rintro e w5 ⟨rfl, hP5, hB5⟩
          have HP5 := Lib.hid hP5
          have HB5 := Lib.hid (HBS.out.trans (hB5 B (Nat.le_refl _) (by omega)))
          clear hP5 hB5
          go_wp2_with fail
          go_roundw
          case rel => exact ⟨j + 1, s + 1, by omega, by go_num, Lib.hid (by rw [HSS.out]; omega), HP5, HB5⟩
          case measure => simp [intOf]; omega
        · have HSK := Lib.hid (show s = (k + 1) * W by rw [Nat.succ_mul, HSS.out]; omega)
          go_wp2_with fail
          go_roundw
          case rel => exact ⟨k + 1, s, by omega, by go_num, HSK, HPS, HBS⟩
          case measure => simp [intOf]; omega
    · have hcb : wr.cell? ⟨B + 1, 0, none⟩ = some (.slice (some ⟨B, 0, none⟩) S S) := HP.out.2.1.cell 0
      go_wp2_with fail
      go_ret2
      have hk2 : k = n := by omega
      have hl : (packL L W).length = S := by rw [packL, packS_length, ← HZ.out, HS.out]
      refine ⟨B, by rw [hl]; rfl, by have := HB.out; omega, ?_, by rw [← HB.out]; exact HBW.out⟩
      have := HP.out.1
      rw [HT.out, hk2] at this
      unfold packL
      rw [← HZ.out, ← HS.out]
      exact this
end Go.Proofs.Ytedldajlioeioaa
