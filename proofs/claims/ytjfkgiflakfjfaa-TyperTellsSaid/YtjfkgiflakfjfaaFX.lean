/- The live question (7). -/
import Derived.Test.YtjfkgiflakfjfaaFW
import Derived.Test.YtjfkgiflakfjfaaTX
namespace Go.Proofs.Ytjfkgiflakfjfaa
open Go.RowKit Go.Maps Go.Lib Go.Shelf
set_option linter.unusedSimpArgs false
set_option linter.unusedVariables false
theorem Blk.row {w : World} {g : Nat} {t : TypeId} {cs : Array Value} {xs : List Value} (h : Blk w g t cs) (e : cs.toList = xs) : Row w (some ⟨g, 0, none⟩) xs := by
  refine .inr ⟨g, 0, rfl, fun j u hu => ?_⟩
  rw [Nat.zero_add, h.cell j]
  rw [← e] at hu
  simpa using hu
def fA : FT := .mk 1 ⟨#[97]⟩ ⟨#[120]⟩ none 0 0 []
def qA (t b : Nat) (x : ByteArray) : QZ := { tA := some ⟨t, 0, none⟩, tn := 1, tc := 1, T := [(1, ⟨#[109]⟩)], frm := 0, upto := 50, every := 10, bA := some ⟨b, 0, none⟩, bn := 1, bc := 1, BY := [x], f := fA, hA := none, hn := 0, hc := 0, H := [], order := 0, limit := 0 }
theorem fA_leaves : fA.leaves = [fA] := by rw [FT.leaves_eq]; rfl
theorem fA_dims : fA.dims = [⟨#[97]⟩] := by rw [FT.dims_eq]; rfl
theorem fA_shp : fA.shp 1 = true := by
  rw [FT.shp_eq]
  have h1 : fA.opTop (decide (1 = 1)) = true := by decide
  rw [h1]; rfl
theorem qA_shape (t b : Nat) (x : ByteArray) : shapeS (qA t b x) = true := by
  unfold shapeS
  have h1 : (qA t b x).f.shp 1 = true := fA_shp
  have h2 : (qA t b x).T.all tmOk = true := by show List.all [(1, ⟨#[109]⟩)] tmOk = true; decide
  have h3 : (qA t b x).H.all hvOk = true := rfl
  rw [h1, h2, h3]; rfl
theorem val_x : valB ⟨#[120]⟩ = true := (valB_iff _).2 ⟨by decide, fun i h => by
  have : i = 0 := by have h1 : i < 1 := h; omega
  subst this; show wrongV 120 = false; decide⟩
theorem apart_one (x : ByteArray) : apartB [x] = true := (apartB_iff _).2 fun i j hij h => by
  have h1 : j < 1 := h
  omega
theorem qA_bounded (t b : Nat) (x : ByteArray) : boundedS ((qA t b x).f.leaves.all lfV) (qA t b x) = true := by
  unfold boundedS
  have h1 : apartB (qA t b x).BY = true := apart_one x
  have h2 : (qA t b x).f.leaves.all lfV = true := by
    show fA.leaves.all lfV = true
    rw [fA_leaves]
    show (valB ⟨#[120]⟩ && true) = true
    rw [val_x]; rfl
  rw [h1, h2]
  unfold numsS granB
  have h3 : okGran (qA t b x).every := by show (1 : Int) ≤ 10 ∧ (10 : Int) ≤ 1048576; decide
  rw [decide_eq_true h3]
  rfl
theorem qA_ok (t b : Nat) : checkS [⟨#[97]⟩, ⟨#[98]⟩, ⟨#[99]⟩] [⟨#[109]⟩] (qA t b ⟨#[99]⟩) = 0 := by
  unfold checkS
  have h1 : namedS [⟨#[97]⟩, ⟨#[98]⟩, ⟨#[99]⟩] [⟨#[109]⟩] (qA t b ⟨#[99]⟩) = true := by
    unfold namedS
    have : (qA t b ⟨#[99]⟩).f.leaves.all (lfN [⟨#[97]⟩, ⟨#[98]⟩, ⟨#[99]⟩]) = true := by
      show fA.leaves.all _ = true
      rw [fA_leaves]; decide
    rw [this]
    show (List.all [⟨#[99]⟩] (inT [⟨#[97]⟩, ⟨#[98]⟩, ⟨#[99]⟩]) && true && List.all [((1 : Int), (⟨#[109]⟩ : ByteArray))] (tmN [⟨#[109]⟩]) && true) = true
    decide
  rw [qA_shape, h1, qA_bounded]; rfl
theorem qA_bad (t b : Nat) : checkS [⟨#[97]⟩, ⟨#[98]⟩, ⟨#[99]⟩] [⟨#[109]⟩] (qA t b ⟨#[100]⟩) = 231 := by
  unfold checkS
  have h1 : namedS [⟨#[97]⟩, ⟨#[98]⟩, ⟨#[99]⟩] [⟨#[109]⟩] (qA t b ⟨#[100]⟩) = false := by
    unfold namedS
    have : (qA t b ⟨#[100]⟩).BY.all (inT [⟨#[97]⟩, ⟨#[98]⟩, ⟨#[99]⟩]) = false := by
      show List.all [⟨#[100]⟩] (inT [⟨#[97]⟩, ⟨#[98]⟩, ⟨#[99]⟩]) = false
      decide
    rw [this]; rfl
  rw [qA_shape, h1]; rfl
theorem qA_in {w : World} {t b : Nat} {x : ByteArray} (h1 : Blk w t 47 #[.int .i64 1, .string ⟨#[109]⟩]) (h2 : Blk w b 9 #[.string x]) : QIn w (qA t b x) := {
  by_ := ⟨h2.row rfl, rfl, Nat.le_refl _, (fun h => by cases h), by show (1 : Nat) ≤ 9223372036854775807; omega⟩
  f := FIn.of ⟨.inl rfl, rfl, Nat.le_refl _, by show (0 : Nat) ≤ 9223372036854775807; omega, (by show (⟨#[97]⟩ : ByteArray).size ≤ 140737488355328; decide), (by show (⟨#[120]⟩ : ByteArray).size ≤ 140737488355328; decide)⟩ (fun k hk => by cases hk)
  trow := h1.row rfl
  tlen := rfl
  tcap := Nat.le_refl _
  tmax := by show (1 : Nat) ≤ 9223372036854775807; omega
  hrow := .inl rfl
  hlen := rfl
  hcap := Nat.le_refl _
  hmax := by show (0 : Nat) ≤ 9223372036854775807; omega }
set_option maxRecDepth 100000 in
set_option maxHeartbeats 32000000 in
theorem alive_any (w : World) : Calls Try.prog 7 #[] w fun e w' => e = .returned (.bool true) ∧ Below w.heap.size w w' := by
  obtain ⟨w1, hw1⟩ : ∃ w1, w1 = ((((((((w.alloc (.cells #[.string ⟨#[97]⟩, .string ⟨#[98]⟩, .string ⟨#[99]⟩] 9)).alloc (.cells #[.string ⟨#[109]⟩] 9)).alloc (.cells #[.slice (some ⟨w.heap.size, 0, none⟩) 3 3, .slice (some ⟨w.heap.size + 1, 0, none⟩) 1 1] 24)).alloc (.cells #[.int .i64 1, .string ⟨#[109]⟩] 47)).alloc (.cells #[.string ⟨#[99]⟩] 9)).alloc (.cells #[.slice (some ⟨w.heap.size + 1 + 1 + 1, 0, none⟩) 1 1, .int .i64 0, .int .i64 50, .int .i64 10, .slice (some ⟨w.heap.size + 1 + 1 + 1 + 1, 0, none⟩) 1 1, .int .i64 1, .string ⟨#[97]⟩, .string ⟨#[120]⟩, .slice none 0 0, .slice none 0 0, .int .i64 0, .int .i64 0] 32)).alloc (.cells #[.slice (some ⟨w.heap.size + 1 + 1 + 1, 0, none⟩) 1 1, .int .i64 0, .int .i64 50, .int .i64 10, .slice (some ⟨w.heap.size + 1 + 1 + 1 + 1 + 1 + 1 + 1, 0, none⟩) 1 1, .int .i64 1, .string ⟨#[97]⟩, .string ⟨#[120]⟩, .slice none 0 0, .slice none 0 0, .int .i64 0, .int .i64 0] 32)).alloc (.cells #[.string ⟨#[100]⟩] 9)) := ⟨_, rfl⟩
  have hb1 : Below w.heap.size w w1 := by rw [hw1]; exact bpush (bpush (bpush (bpush (bpush (bpush (bpush (bpush (Below.refl _ _) _) _) _) _) _) _) _) _
  have k0 : Blk w1 (w.heap.size) 9 #[.string ⟨#[97]⟩, .string ⟨#[98]⟩, .string ⟨#[99]⟩] := by
    have h := (Blk.new w 9 #[.string ⟨#[97]⟩, .string ⟨#[98]⟩, .string ⟨#[99]⟩]).below (w' := w1) (by rw [hw1]; exact bpush (bpush (bpush (bpush (bpush (bpush (bpush (Below.refl _ _) _) _) _) _) _) _) _)
    simpa using h
  have k1 : Blk w1 (w.heap.size + 1) 9 #[.string ⟨#[109]⟩] := by
    have h := (Blk.new (w.alloc (.cells #[.string ⟨#[97]⟩, .string ⟨#[98]⟩, .string ⟨#[99]⟩] 9)) 9 #[.string ⟨#[109]⟩]).below (w' := w1) (by rw [hw1]; exact bpush (bpush (bpush (bpush (bpush (bpush (Below.refl _ _) _) _) _) _) _) _)
    simpa using h
  have k2 : Blk w1 (w.heap.size + 1 + 1) 24 #[.slice (some ⟨w.heap.size, 0, none⟩) 3 3, .slice (some ⟨w.heap.size + 1, 0, none⟩) 1 1] := by
    have h := (Blk.new ((w.alloc (.cells #[.string ⟨#[97]⟩, .string ⟨#[98]⟩, .string ⟨#[99]⟩] 9)).alloc (.cells #[.string ⟨#[109]⟩] 9)) 24 #[.slice (some ⟨w.heap.size, 0, none⟩) 3 3, .slice (some ⟨w.heap.size + 1, 0, none⟩) 1 1]).below (w' := w1) (by rw [hw1]; exact bpush (bpush (bpush (bpush (bpush (Below.refl _ _) _) _) _) _) _)
    simpa using h
  have k3 : Blk w1 (w.heap.size + 1 + 1 + 1) 47 #[.int .i64 1, .string ⟨#[109]⟩] := by
    have h := (Blk.new (((w.alloc (.cells #[.string ⟨#[97]⟩, .string ⟨#[98]⟩, .string ⟨#[99]⟩] 9)).alloc (.cells #[.string ⟨#[109]⟩] 9)).alloc (.cells #[.slice (some ⟨w.heap.size, 0, none⟩) 3 3, .slice (some ⟨w.heap.size + 1, 0, none⟩) 1 1] 24)) 47 #[.int .i64 1, .string ⟨#[109]⟩]).below (w' := w1) (by rw [hw1]; exact bpush (bpush (bpush (bpush (Below.refl _ _) _) _) _) _)
    simpa using h
  have k4 : Blk w1 (w.heap.size + 1 + 1 + 1 + 1) 9 #[.string ⟨#[99]⟩] := by
    have h := (Blk.new ((((w.alloc (.cells #[.string ⟨#[97]⟩, .string ⟨#[98]⟩, .string ⟨#[99]⟩] 9)).alloc (.cells #[.string ⟨#[109]⟩] 9)).alloc (.cells #[.slice (some ⟨w.heap.size, 0, none⟩) 3 3, .slice (some ⟨w.heap.size + 1, 0, none⟩) 1 1] 24)).alloc (.cells #[.int .i64 1, .string ⟨#[109]⟩] 47)) 9 #[.string ⟨#[99]⟩]).below (w' := w1) (by rw [hw1]; exact bpush (bpush (bpush (Below.refl _ _) _) _) _)
    simpa using h
  have k5 : Blk w1 (w.heap.size + 1 + 1 + 1 + 1 + 1) 32 #[.slice (some ⟨w.heap.size + 1 + 1 + 1, 0, none⟩) 1 1, .int .i64 0, .int .i64 50, .int .i64 10, .slice (some ⟨w.heap.size + 1 + 1 + 1 + 1, 0, none⟩) 1 1, .int .i64 1, .string ⟨#[97]⟩, .string ⟨#[120]⟩, .slice none 0 0, .slice none 0 0, .int .i64 0, .int .i64 0] := by
    have h := (Blk.new (((((w.alloc (.cells #[.string ⟨#[97]⟩, .string ⟨#[98]⟩, .string ⟨#[99]⟩] 9)).alloc (.cells #[.string ⟨#[109]⟩] 9)).alloc (.cells #[.slice (some ⟨w.heap.size, 0, none⟩) 3 3, .slice (some ⟨w.heap.size + 1, 0, none⟩) 1 1] 24)).alloc (.cells #[.int .i64 1, .string ⟨#[109]⟩] 47)).alloc (.cells #[.string ⟨#[99]⟩] 9)) 32 #[.slice (some ⟨w.heap.size + 1 + 1 + 1, 0, none⟩) 1 1, .int .i64 0, .int .i64 50, .int .i64 10, .slice (some ⟨w.heap.size + 1 + 1 + 1 + 1, 0, none⟩) 1 1, .int .i64 1, .string ⟨#[97]⟩, .string ⟨#[120]⟩, .slice none 0 0, .slice none 0 0, .int .i64 0, .int .i64 0]).below (w' := w1) (by rw [hw1]; exact bpush (bpush (Below.refl _ _) _) _)
    simpa using h
  have k6 : Blk w1 (w.heap.size + 1 + 1 + 1 + 1 + 1 + 1) 32 #[.slice (some ⟨w.heap.size + 1 + 1 + 1, 0, none⟩) 1 1, .int .i64 0, .int .i64 50, .int .i64 10, .slice (some ⟨w.heap.size + 1 + 1 + 1 + 1 + 1 + 1 + 1, 0, none⟩) 1 1, .int .i64 1, .string ⟨#[97]⟩, .string ⟨#[120]⟩, .slice none 0 0, .slice none 0 0, .int .i64 0, .int .i64 0] := by
    have h := (Blk.new ((((((w.alloc (.cells #[.string ⟨#[97]⟩, .string ⟨#[98]⟩, .string ⟨#[99]⟩] 9)).alloc (.cells #[.string ⟨#[109]⟩] 9)).alloc (.cells #[.slice (some ⟨w.heap.size, 0, none⟩) 3 3, .slice (some ⟨w.heap.size + 1, 0, none⟩) 1 1] 24)).alloc (.cells #[.int .i64 1, .string ⟨#[109]⟩] 47)).alloc (.cells #[.string ⟨#[99]⟩] 9)).alloc (.cells #[.slice (some ⟨w.heap.size + 1 + 1 + 1, 0, none⟩) 1 1, .int .i64 0, .int .i64 50, .int .i64 10, .slice (some ⟨w.heap.size + 1 + 1 + 1 + 1, 0, none⟩) 1 1, .int .i64 1, .string ⟨#[97]⟩, .string ⟨#[120]⟩, .slice none 0 0, .slice none 0 0, .int .i64 0, .int .i64 0] 32)) 32 #[.slice (some ⟨w.heap.size + 1 + 1 + 1, 0, none⟩) 1 1, .int .i64 0, .int .i64 50, .int .i64 10, .slice (some ⟨w.heap.size + 1 + 1 + 1 + 1 + 1 + 1 + 1, 0, none⟩) 1 1, .int .i64 1, .string ⟨#[97]⟩, .string ⟨#[120]⟩, .slice none 0 0, .slice none 0 0, .int .i64 0, .int .i64 0]).below (w' := w1) (by rw [hw1]; exact bpush (Below.refl _ _) _)
    simpa using h
  have k7 : Blk w1 (w.heap.size + 1 + 1 + 1 + 1 + 1 + 1 + 1) 9 #[.string ⟨#[100]⟩] := by
    have h := (Blk.new (((((((w.alloc (.cells #[.string ⟨#[97]⟩, .string ⟨#[98]⟩, .string ⟨#[99]⟩] 9)).alloc (.cells #[.string ⟨#[109]⟩] 9)).alloc (.cells #[.slice (some ⟨w.heap.size, 0, none⟩) 3 3, .slice (some ⟨w.heap.size + 1, 0, none⟩) 1 1] 24)).alloc (.cells #[.int .i64 1, .string ⟨#[109]⟩] 47)).alloc (.cells #[.string ⟨#[99]⟩] 9)).alloc (.cells #[.slice (some ⟨w.heap.size + 1 + 1 + 1, 0, none⟩) 1 1, .int .i64 0, .int .i64 50, .int .i64 10, .slice (some ⟨w.heap.size + 1 + 1 + 1 + 1, 0, none⟩) 1 1, .int .i64 1, .string ⟨#[97]⟩, .string ⟨#[120]⟩, .slice none 0 0, .slice none 0 0, .int .i64 0, .int .i64 0] 32)).alloc (.cells #[.slice (some ⟨w.heap.size + 1 + 1 + 1, 0, none⟩) 1 1, .int .i64 0, .int .i64 50, .int .i64 10, .slice (some ⟨w.heap.size + 1 + 1 + 1 + 1 + 1 + 1 + 1, 0, none⟩) 1 1, .int .i64 1, .string ⟨#[97]⟩, .string ⟨#[120]⟩, .slice none 0 0, .slice none 0 0, .int .i64 0, .int .i64 0] 32)) 9 #[.string ⟨#[100]⟩]).below (w' := w1) (by rw [hw1]; exact Below.refl _ _)
    simpa using h
  obtain ⟨g7, hg7⟩ : ∃ x, x = w.heap.size + 1 + 1 + 1 + 1 + 1 + 1 + 1 := ⟨_, rfl⟩
  obtain ⟨g6, hg6⟩ : ∃ x, x = w.heap.size + 1 + 1 + 1 + 1 + 1 + 1 := ⟨_, rfl⟩
  obtain ⟨g5, hg5⟩ : ∃ x, x = w.heap.size + 1 + 1 + 1 + 1 + 1 := ⟨_, rfl⟩
  obtain ⟨g4, hg4⟩ : ∃ x, x = w.heap.size + 1 + 1 + 1 + 1 := ⟨_, rfl⟩
  obtain ⟨g3, hg3⟩ : ∃ x, x = w.heap.size + 1 + 1 + 1 := ⟨_, rfl⟩
  obtain ⟨g2, hg2⟩ : ∃ x, x = w.heap.size + 1 + 1 := ⟨_, rfl⟩
  obtain ⟨g1, hg1⟩ : ∃ x, x = w.heap.size + 1 := ⟨_, rfl⟩
  obtain ⟨g0, hg0⟩ : ∃ x, x = w.heap.size := ⟨_, rfl⟩
  rw [← hg0] at k0
  rw [← hg1] at k1
  rw [← hg2, ← hg1, ← hg0] at k2
  rw [← hg3] at k3
  rw [← hg4] at k4
  rw [← hg5, ← hg4, ← hg3] at k5
  rw [← hg7, ← hg6, ← hg3] at k6
  rw [← hg7] at k7
  have HW1 := Lib.hid hw1
  have HG0 := Lib.hid hg0
  have K0 := Lib.hid k0
  have HG1 := Lib.hid hg1
  have K1 := Lib.hid k1
  have HG2 := Lib.hid hg2
  have K2 := Lib.hid k2
  have HG3 := Lib.hid hg3
  have K3 := Lib.hid k3
  have HG4 := Lib.hid hg4
  have K4 := Lib.hid k4
  have HG5 := Lib.hid hg5
  have K5 := Lib.hid k5
  have HG6 := Lib.hid hg6
  have K6 := Lib.hid k6
  have HG7 := Lib.hid hg7
  have K7 := Lib.hid k7
  have HB1 := Lib.hid hb1
  have hL : StrsIn w1 (some ⟨g0, 0, none⟩) 3 3 [⟨#[97]⟩, ⟨#[98]⟩, ⟨#[99]⟩] := ⟨k0.row rfl, rfl, Nat.le_refl _, (fun h => by cases h), by omega⟩
  have hM : StrsIn w1 (some ⟨g1, 0, none⟩) 1 1 [⟨#[109]⟩] := ⟨k1.row rfl, rfl, Nat.le_refl _, (fun h => by cases h), by omega⟩
  have hQ1 : QIn w1 (qA g3 g4 ⟨#[99]⟩) := qA_in k3 k4
  have hQ2 : QIn w1 (qA g3 g7 ⟨#[100]⟩) := qA_in k3 k7
  have HX1 := Lib.hid (show Calls Try.prog 8 #[.agg #[.slice (some ⟨g0, 0, none⟩) 3 3, .slice (some ⟨g1, 0, none⟩) 1 1], .agg #[.slice (some ⟨g3, 0, none⟩) 1 1, .int .i64 0, .int .i64 50, .int .i64 10, .slice (some ⟨g4, 0, none⟩) 1 1, .int .i64 1, .string ⟨#[97]⟩, .string ⟨#[120]⟩, .slice none 0 0, .slice none 0 0, .int .i64 0, .int .i64 0]] w1 (fun e w' => e = .returned (.int .i64 0) ∧ Below w1.heap.size w1 w') from by
    have h := check_any (some ⟨g0, 0, none⟩) (some ⟨g1, 0, none⟩) 3 3 1 1 _ _ _ w1 hL hM hQ1
    rw [qA_ok] at h
    exact h)
  have HX2 := Lib.hid (fun W (hW : Below w1.heap.size w1 W) => show Calls Try.prog 8 #[.agg #[.slice (some ⟨g0, 0, none⟩) 3 3, .slice (some ⟨g1, 0, none⟩) 1 1], .agg #[.slice (some ⟨g3, 0, none⟩) 1 1, .int .i64 0, .int .i64 50, .int .i64 10, .slice (some ⟨g7, 0, none⟩) 1 1, .int .i64 1, .string ⟨#[97]⟩, .string ⟨#[120]⟩, .slice none 0 0, .slice none 0 0, .int .i64 0, .int .i64 0]] W (fun e w' => e = .returned (.int .i64 231) ∧ Below W.heap.size W w') from by
    have h := check_any (some ⟨g0, 0, none⟩) (some ⟨g1, 0, none⟩) 3 3 1 1 _ _ _ W (hL.keep (Nat.le_refl _) hW) (hM.keep (Nat.le_refl _) hW) (hQ2.keep (Nat.le_refl _) hW)
    rw [qA_bad] at h
    exact h)
  have HX3 := Lib.hid (fun W (hW : Below w1.heap.size w1 W) => show Calls Try.prog 11 #[.agg #[.slice (some ⟨g0, 0, none⟩) 3 3, .slice (some ⟨g1, 0, none⟩) 1 1], .agg #[.slice (some ⟨g3, 0, none⟩) 1 1, .int .i64 0, .int .i64 50, .int .i64 10, .slice (some ⟨g4, 0, none⟩) 1 1, .int .i64 1, .string ⟨#[97]⟩, .string ⟨#[120]⟩, .slice none 0 0, .slice none 0 0, .int .i64 0, .int .i64 0]] W (TextsP W [⟨#[97]⟩, ⟨#[99]⟩]) from by
    have h := used_any (some ⟨g0, 0, none⟩) (some ⟨g1, 0, none⟩) 3 3 1 1 _ [⟨#[109]⟩] _ W (hL.keep (Nat.le_refl _) hW) (hQ1.keep (Nat.le_refl _) hW) (by show (1 : Nat) ≤ 1000; omega) (by show fA.leaves.length ≤ _; rw [fA_leaves]; decide) (by omega)
    have hus : usedL [⟨#[97]⟩, ⟨#[98]⟩, ⟨#[99]⟩] ((qA g3 g4 ⟨#[99]⟩).BY ++ (qA g3 g4 ⟨#[99]⟩).f.dims) = [⟨#[97]⟩, ⟨#[99]⟩] := by
      show usedL _ ([⟨#[99]⟩] ++ fA.dims) = _
      rw [fA_dims]; decide
    rw [hus] at h
    exact h)
  have HBK := Lib.hid (fun W => show Calls Try.prog 13 #[.agg #[.slice (some ⟨g3, 0, none⟩) 1 1, .int .i64 0, .int .i64 50, .int .i64 10, .slice (some ⟨g4, 0, none⟩) 1 1, .int .i64 1, .string ⟨#[97]⟩, .string ⟨#[120]⟩, .slice none 0 0, .slice none 0 0, .int .i64 0, .int .i64 0], .int .i64 37] W (fun e w' => e = .returned (.int .i64 30) ∧ Below W.heap.size W w') from by
    have h := bkt_any (qA g3 g4 ⟨#[99]⟩) 37 W (.inr (by show (1 : Int) ≤ 10 ∧ (10 : Int) ≤ 1048576; decide)) (by decide)
    have hbk : bktS (qA g3 g4 ⟨#[99]⟩).frm (qA g3 g4 ⟨#[99]⟩).every 37 = 30 := by show bktS 0 10 37 = 30; decide
    rw [hbk] at h
    exact h)
  have HTX := Lib.hid (fun (A B : Option Addr) (ca cb : Nat) (W : World) (hA : Row W A (texts [⟨#[97]⟩, ⟨#[99]⟩])) (hB : Row W B (texts [⟨#[97]⟩, ⟨#[99]⟩])) => texts_any A B 2 ca 2 cb [⟨#[97]⟩, ⟨#[99]⟩] [⟨#[97]⟩, ⟨#[99]⟩] W hA hB rfl rfl (by omega) (by omega) true (by simp))
  have HC5 := Lib.hid (fun W (hW : Below w1.heap.size w1 W) => show W.cell? ⟨g5, 0, none⟩ = some (.slice (some ⟨g3, 0, none⟩) 1 1) ∧ W.cell? ⟨g5, 1, none⟩ = some (.int .i64 0) ∧ W.cell? ⟨g5, 2, none⟩ = some (.int .i64 50) ∧ W.cell? ⟨g5, 3, none⟩ = some (.int .i64 10) ∧ W.cell? ⟨g5, 4, none⟩ = some (.slice (some ⟨g4, 0, none⟩) 1 1) ∧ W.cell? ⟨g5, 5, none⟩ = some (.int .i64 1) ∧ W.cell? ⟨g5, 6, none⟩ = some (.string ⟨#[97]⟩) ∧ W.cell? ⟨g5, 7, none⟩ = some (.string ⟨#[120]⟩) ∧ W.cell? ⟨g5, 8, none⟩ = some (.slice none 0 0) ∧ W.cell? ⟨g5, 9, none⟩ = some (.slice none 0 0) ∧ W.cell? ⟨g5, 10, none⟩ = some (.int .i64 0) ∧ W.cell? ⟨g5, 11, none⟩ = some (.int .i64 0) from ⟨by rw [(k5.below hW).cell 0]; rfl, by rw [(k5.below hW).cell 1]; rfl, by rw [(k5.below hW).cell 2]; rfl, by rw [(k5.below hW).cell 3]; rfl, by rw [(k5.below hW).cell 4]; rfl, by rw [(k5.below hW).cell 5]; rfl, by rw [(k5.below hW).cell 6]; rfl, by rw [(k5.below hW).cell 7]; rfl, by rw [(k5.below hW).cell 8]; rfl, by rw [(k5.below hW).cell 9]; rfl, by rw [(k5.below hW).cell 10]; rfl, by rw [(k5.below hW).cell 11]; rfl⟩)
  have HC6 := Lib.hid (fun W (hW : Below w1.heap.size w1 W) => show W.cell? ⟨g6, 0, none⟩ = some (.slice (some ⟨g3, 0, none⟩) 1 1) ∧ W.cell? ⟨g6, 1, none⟩ = some (.int .i64 0) ∧ W.cell? ⟨g6, 2, none⟩ = some (.int .i64 50) ∧ W.cell? ⟨g6, 3, none⟩ = some (.int .i64 10) ∧ W.cell? ⟨g6, 4, none⟩ = some (.slice (some ⟨g7, 0, none⟩) 1 1) ∧ W.cell? ⟨g6, 5, none⟩ = some (.int .i64 1) ∧ W.cell? ⟨g6, 6, none⟩ = some (.string ⟨#[97]⟩) ∧ W.cell? ⟨g6, 7, none⟩ = some (.string ⟨#[120]⟩) ∧ W.cell? ⟨g6, 8, none⟩ = some (.slice none 0 0) ∧ W.cell? ⟨g6, 9, none⟩ = some (.slice none 0 0) ∧ W.cell? ⟨g6, 10, none⟩ = some (.int .i64 0) ∧ W.cell? ⟨g6, 11, none⟩ = some (.int .i64 0) from ⟨by rw [(k6.below hW).cell 0]; rfl, by rw [(k6.below hW).cell 1]; rfl, by rw [(k6.below hW).cell 2]; rfl, by rw [(k6.below hW).cell 3]; rfl, by rw [(k6.below hW).cell 4]; rfl, by rw [(k6.below hW).cell 5]; rfl, by rw [(k6.below hW).cell 6]; rfl, by rw [(k6.below hW).cell 7]; rfl, by rw [(k6.below hW).cell 8]; rfl, by rw [(k6.below hW).cell 9]; rfl, by rw [(k6.below hW).cell 10]; rfl, by rw [(k6.below hW).cell 11]; rfl⟩)
  have HC2 := Lib.hid (fun W (hW : Below w1.heap.size w1 W) => s_cells (k2.below hW))
  obtain ⟨c0, c1, c2, c3, c4, c5, c6, c7, c8, c9, c10, c11⟩ := HC5.out w1 (Below.refl _ _)
  obtain ⟨s0, s1⟩ := HC2.out w1 (Below.refl _ _)
  clear hw1 hb1 k0 k1 k2 k3 k4 k5 k6 k7 hg0 hg1 hg2 hg3 hg4 hg5 hg6 hg7 hL hM hQ1 hQ2
  go_enter Try.func7, Try.ntmps7
  go_upto_region 5 with fail
  rw [← HW1.out]
  rw [← HG7.out, ← HG6.out, ← HG5.out, ← HG4.out, ← HG3.out, ← HG2.out, ← HG1.out, ← HG0.out]
  go_wp2_with (first
    | (go_at_call 13; refine (HBK.out _).mono ?_; rintro e w5 ⟨rfl, hb⟩; have HB5 := Lib.hid (HB4.out.trans (hb.mono HB4.out.size)); clear hb)
    | (go_at_call 10; refine (HTX.out _ _ _ _ _ (HR4.out.keep (Nat.le_refl _) (bpush (Below.refl _ _) _)) (Row.made (t := 9) rfl rfl)).mono ?_; rintro e w4 ⟨rfl, hb⟩; have HB4 := Lib.hid (show Below w1.heap.size w1 w4 from (bthen (bpush HB3.out _) hb)); obtain ⟨d0, d1, d2, d3, d4, d5, d6, d7, d8, d9, d10, d11⟩ := HC5.out w4 HB4.out; clear hb)
    | (go_at_call 11; refine (HX3.out _ HB2.out).mono ?_; rintro e w3' ⟨v3, rfl, ho3, hb⟩; obtain ⟨A3, c3', rfl, hr3, -, -⟩ := own_slice ho3; have HR4 := Lib.hid hr3; have HB3 := Lib.hid (show Below w1.heap.size w1 w3' from bthen HB2.out hb); clear hb ho3 hr3)
    | (go_at_call 8; refine (HX2.out _ HBa.out).mono ?_; rintro e w2 ⟨rfl, hb⟩; have HB2 := Lib.hid (bthen HBa.out hb); obtain ⟨d0, d1, d2, d3, d4, d5, d6, d7, d8, d9, d10, d11⟩ := HC5.out w2 HB2.out; obtain ⟨t0, t1⟩ := HC2.out w2 HB2.out; clear hb)
    | (go_at_call 8; refine HX1.out.mono ?_; rintro e wa ⟨rfl, hb⟩; have HBa := Lib.hid hb; obtain ⟨d0, d1, d2, d3, d4, d5, d6, d7, d8, d9, d10, d11⟩ := HC6.out wa hb; obtain ⟨t0, t1⟩ := HC2.out wa hb; clear hb))
  go_ret
  exact ⟨rfl, bthen HB1.out HB5.out⟩
end Go.Proofs.Ytjfkgiflakfjfaa
