/- store (20): the manifest of the live question. alive (8): the live question. -/
import Derived.Test.YtgaallkdfcckpaaSX
import Derived.Test.YtgaallkdfcckpaaSK
import Derived.BigQuiet
namespace Go.Proofs.Ytgaallkdfcckpaa
open Go.RowKit Go.Maps Go.Lib Go.Shelf
set_option linter.unusedSimpArgs false
set_option linter.unusedVariables false
theorem Blk.rowT {w : World} {g : Nat} {t : TypeId} {cs : Array Value} {xs : List Value} (h : Blk w g t cs) (e : cs.toList = xs) : Row w (some ⟨g, 0, none⟩) xs := by
  refine .inr ⟨g, 0, rfl, fun j u hu => ?_⟩
  rw [Nat.zero_add, h.cell j]
  rw [← e] at hu
  simpa using hu
def storeP (b : Nat) : PZ := { tA := (some ⟨b + 1 + 1 + 1 + 1 + 1, 0, none⟩), tn := 2, tc := 2, T := [⟨0, 1, (some ⟨b + 1 + 1 + 1, 0, none⟩), 2, 2, [⟨#[97]⟩, ⟨#[98]⟩]⟩, ⟨20, 10, (some ⟨b + 1 + 1 + 1 + 1, 0, none⟩), 1, 1, [⟨#[97]⟩]⟩], jA := (some ⟨b + 1 + 1 + 1 + 1 + 1 + 1, 0, none⟩), jn := 1, jc := 1, J := [⟨0, 5, none, 0, 0, []⟩], hor := 100 }
def storeF : List SZ := [⟨⟨#[115]⟩, 0, -1, 9⟩, ⟨⟨#[116]⟩, 0, 0, 4⟩]
def storeM (b : Nat) : MZ := { dA := (some ⟨b + 1, 0, none⟩), dn := 2, dc := 2, D := [⟨#[97]⟩, ⟨#[98]⟩], mA := none, mn := 0, mc := 0, M := [], p := storeP b, now := 60, eA := (some ⟨b + 1 + 1 + 1 + 1 + 1 + 1 + 1 + 1, 0, none⟩), en := 2, ec := 2, E := [40, 0], cnt := 0, sA := none, sn := 0, sc := 0, S := [], fA := (some ⟨b + 1 + 1 + 1 + 1 + 1 + 1 + 1 + 1 + 1, 0, none⟩), fn := 2, fc := 2, F := storeF, jr := ⟨#[106]⟩, nxt := 0 }
def StP (w : World) (e : Ending) (w' : World) : Prop := e = .returned (.agg (#[.slice (some ⟨w.heap.size + 1, 0, none⟩) 2 2, .slice none 0 0, .slice (some ⟨w.heap.size + 1 + 1 + 1 + 1 + 1, 0, none⟩) 2 2, .slice (some ⟨w.heap.size + 1 + 1 + 1 + 1 + 1 + 1, 0, none⟩) 1 1, .int .i64 100, .int .i64 60, .slice (some ⟨w.heap.size + 1 + 1 + 1 + 1 + 1 + 1 + 1 + 1, 0, none⟩) 2 2, .int .i64 0, .slice none 0 0, .slice (some ⟨w.heap.size + 1 + 1 + 1 + 1 + 1 + 1 + 1 + 1 + 1, 0, none⟩) 2 2, .string ⟨#[106]⟩, .int .i64 0])) ∧ MIn w' (storeM w.heap.size) ∧ Below w.heap.size w w'
theorem store_in {w w1 : World} {b : Nat} (hb : b = w.heap.size) (hw1 : w1 = ((((((((((w.alloc (.cells #[.slice (some ⟨b + 1, 0, none⟩) 2 2, .slice none 0 0, .slice (some ⟨b + 1 + 1 + 1 + 1 + 1, 0, none⟩) 2 2, .slice (some ⟨b + 1 + 1 + 1 + 1 + 1 + 1, 0, none⟩) 1 1, .int .i64 100, .int .i64 60, .slice (some ⟨b + 1 + 1 + 1 + 1 + 1 + 1 + 1 + 1, 0, none⟩) 2 2, .int .i64 0, .slice none 0 0, .slice (some ⟨b + 1 + 1 + 1 + 1 + 1 + 1 + 1 + 1 + 1, 0, none⟩) 2 2, .string ⟨#[106]⟩, .int .i64 0] 34)).alloc (.cells #[.string ⟨#[97]⟩, .string ⟨#[98]⟩] 9)).alloc (.cells #[.slice (some ⟨b + 1, 0, none⟩) 2 2, .slice none 0 0] 24)).alloc (.cells #[.string ⟨#[97]⟩, .string ⟨#[98]⟩] 9)).alloc (.cells #[.string ⟨#[97]⟩] 9)).alloc (.cells #[.int .i64 0, .int .i64 1, .slice (some ⟨b + 1 + 1 + 1, 0, none⟩) 2 2, .int .i64 20, .int .i64 10, .slice (some ⟨b + 1 + 1 + 1 + 1, 0, none⟩) 1 1] 60)).alloc (.cells #[.int .i64 0, .int .i64 5, .slice none 0 0] 51)).alloc (.cells #[.slice (some ⟨b + 1 + 1 + 1 + 1 + 1, 0, none⟩) 2 2, .slice (some ⟨b + 1 + 1 + 1 + 1 + 1 + 1, 0, none⟩) 1 1, .int .i64 100] 28)).alloc (.cells #[.int .i64 40, .int .i64 0] 3)).alloc (.cells #[.string ⟨#[115]⟩, .int .i64 0, .int .i64 (-1), .int .i64 9, .string ⟨#[116]⟩, .int .i64 0, .int .i64 0, .int .i64 4] 57))) : Below w.heap.size w w1 ∧ MIn w1 (storeM b) ∧ Blk w1 b 34 #[.slice (some ⟨b + 1, 0, none⟩) 2 2, .slice none 0 0, .slice (some ⟨b + 1 + 1 + 1 + 1 + 1, 0, none⟩) 2 2, .slice (some ⟨b + 1 + 1 + 1 + 1 + 1 + 1, 0, none⟩) 1 1, .int .i64 100, .int .i64 60, .slice (some ⟨b + 1 + 1 + 1 + 1 + 1 + 1 + 1 + 1, 0, none⟩) 2 2, .int .i64 0, .slice none 0 0, .slice (some ⟨b + 1 + 1 + 1 + 1 + 1 + 1 + 1 + 1 + 1, 0, none⟩) 2 2, .string ⟨#[106]⟩, .int .i64 0] := by
  have hb1 : Below w.heap.size w w1 := by rw [hw1]; exact bpush (bpush (bpush (bpush (bpush (bpush (bpush (bpush (bpush (bpush (Below.refl _ _) _) _) _) _) _) _) _) _) _) _
  have k0 : Blk w1 (b) 34 #[.slice (some ⟨b + 1, 0, none⟩) 2 2, .slice none 0 0, .slice (some ⟨b + 1 + 1 + 1 + 1 + 1, 0, none⟩) 2 2, .slice (some ⟨b + 1 + 1 + 1 + 1 + 1 + 1, 0, none⟩) 1 1, .int .i64 100, .int .i64 60, .slice (some ⟨b + 1 + 1 + 1 + 1 + 1 + 1 + 1 + 1, 0, none⟩) 2 2, .int .i64 0, .slice none 0 0, .slice (some ⟨b + 1 + 1 + 1 + 1 + 1 + 1 + 1 + 1 + 1, 0, none⟩) 2 2, .string ⟨#[106]⟩, .int .i64 0] := by
    have h := (Blk.new w 34 #[.slice (some ⟨b + 1, 0, none⟩) 2 2, .slice none 0 0, .slice (some ⟨b + 1 + 1 + 1 + 1 + 1, 0, none⟩) 2 2, .slice (some ⟨b + 1 + 1 + 1 + 1 + 1 + 1, 0, none⟩) 1 1, .int .i64 100, .int .i64 60, .slice (some ⟨b + 1 + 1 + 1 + 1 + 1 + 1 + 1 + 1, 0, none⟩) 2 2, .int .i64 0, .slice none 0 0, .slice (some ⟨b + 1 + 1 + 1 + 1 + 1 + 1 + 1 + 1 + 1, 0, none⟩) 2 2, .string ⟨#[106]⟩, .int .i64 0]).below (w' := w1) (by rw [hw1]; exact bpush (bpush (bpush (bpush (bpush (bpush (bpush (bpush (bpush (Below.refl _ _) _) _) _) _) _) _) _) _) _)
    rw [hb] at h ⊢
    simpa using h
  have k1 : Blk w1 (b + 1) 9 #[.string ⟨#[97]⟩, .string ⟨#[98]⟩] := by
    have h := (Blk.new (w.alloc (.cells #[.slice (some ⟨b + 1, 0, none⟩) 2 2, .slice none 0 0, .slice (some ⟨b + 1 + 1 + 1 + 1 + 1, 0, none⟩) 2 2, .slice (some ⟨b + 1 + 1 + 1 + 1 + 1 + 1, 0, none⟩) 1 1, .int .i64 100, .int .i64 60, .slice (some ⟨b + 1 + 1 + 1 + 1 + 1 + 1 + 1 + 1, 0, none⟩) 2 2, .int .i64 0, .slice none 0 0, .slice (some ⟨b + 1 + 1 + 1 + 1 + 1 + 1 + 1 + 1 + 1, 0, none⟩) 2 2, .string ⟨#[106]⟩, .int .i64 0] 34)) 9 #[.string ⟨#[97]⟩, .string ⟨#[98]⟩]).below (w' := w1) (by rw [hw1]; exact bpush (bpush (bpush (bpush (bpush (bpush (bpush (bpush (Below.refl _ _) _) _) _) _) _) _) _) _)
    rw [hb] at h ⊢
    simpa using h
  have k2 : Blk w1 (b + 1 + 1) 24 #[.slice (some ⟨b + 1, 0, none⟩) 2 2, .slice none 0 0] := by
    have h := (Blk.new ((w.alloc (.cells #[.slice (some ⟨b + 1, 0, none⟩) 2 2, .slice none 0 0, .slice (some ⟨b + 1 + 1 + 1 + 1 + 1, 0, none⟩) 2 2, .slice (some ⟨b + 1 + 1 + 1 + 1 + 1 + 1, 0, none⟩) 1 1, .int .i64 100, .int .i64 60, .slice (some ⟨b + 1 + 1 + 1 + 1 + 1 + 1 + 1 + 1, 0, none⟩) 2 2, .int .i64 0, .slice none 0 0, .slice (some ⟨b + 1 + 1 + 1 + 1 + 1 + 1 + 1 + 1 + 1, 0, none⟩) 2 2, .string ⟨#[106]⟩, .int .i64 0] 34)).alloc (.cells #[.string ⟨#[97]⟩, .string ⟨#[98]⟩] 9)) 24 #[.slice (some ⟨b + 1, 0, none⟩) 2 2, .slice none 0 0]).below (w' := w1) (by rw [hw1]; exact bpush (bpush (bpush (bpush (bpush (bpush (bpush (Below.refl _ _) _) _) _) _) _) _) _)
    rw [hb] at h ⊢
    simpa using h
  have k3 : Blk w1 (b + 1 + 1 + 1) 9 #[.string ⟨#[97]⟩, .string ⟨#[98]⟩] := by
    have h := (Blk.new (((w.alloc (.cells #[.slice (some ⟨b + 1, 0, none⟩) 2 2, .slice none 0 0, .slice (some ⟨b + 1 + 1 + 1 + 1 + 1, 0, none⟩) 2 2, .slice (some ⟨b + 1 + 1 + 1 + 1 + 1 + 1, 0, none⟩) 1 1, .int .i64 100, .int .i64 60, .slice (some ⟨b + 1 + 1 + 1 + 1 + 1 + 1 + 1 + 1, 0, none⟩) 2 2, .int .i64 0, .slice none 0 0, .slice (some ⟨b + 1 + 1 + 1 + 1 + 1 + 1 + 1 + 1 + 1, 0, none⟩) 2 2, .string ⟨#[106]⟩, .int .i64 0] 34)).alloc (.cells #[.string ⟨#[97]⟩, .string ⟨#[98]⟩] 9)).alloc (.cells #[.slice (some ⟨b + 1, 0, none⟩) 2 2, .slice none 0 0] 24)) 9 #[.string ⟨#[97]⟩, .string ⟨#[98]⟩]).below (w' := w1) (by rw [hw1]; exact bpush (bpush (bpush (bpush (bpush (bpush (Below.refl _ _) _) _) _) _) _) _)
    rw [hb] at h ⊢
    simpa using h
  have k4 : Blk w1 (b + 1 + 1 + 1 + 1) 9 #[.string ⟨#[97]⟩] := by
    have h := (Blk.new ((((w.alloc (.cells #[.slice (some ⟨b + 1, 0, none⟩) 2 2, .slice none 0 0, .slice (some ⟨b + 1 + 1 + 1 + 1 + 1, 0, none⟩) 2 2, .slice (some ⟨b + 1 + 1 + 1 + 1 + 1 + 1, 0, none⟩) 1 1, .int .i64 100, .int .i64 60, .slice (some ⟨b + 1 + 1 + 1 + 1 + 1 + 1 + 1 + 1, 0, none⟩) 2 2, .int .i64 0, .slice none 0 0, .slice (some ⟨b + 1 + 1 + 1 + 1 + 1 + 1 + 1 + 1 + 1, 0, none⟩) 2 2, .string ⟨#[106]⟩, .int .i64 0] 34)).alloc (.cells #[.string ⟨#[97]⟩, .string ⟨#[98]⟩] 9)).alloc (.cells #[.slice (some ⟨b + 1, 0, none⟩) 2 2, .slice none 0 0] 24)).alloc (.cells #[.string ⟨#[97]⟩, .string ⟨#[98]⟩] 9)) 9 #[.string ⟨#[97]⟩]).below (w' := w1) (by rw [hw1]; exact bpush (bpush (bpush (bpush (bpush (Below.refl _ _) _) _) _) _) _)
    rw [hb] at h ⊢
    simpa using h
  have k5 : Blk w1 (b + 1 + 1 + 1 + 1 + 1) 60 #[.int .i64 0, .int .i64 1, .slice (some ⟨b + 1 + 1 + 1, 0, none⟩) 2 2, .int .i64 20, .int .i64 10, .slice (some ⟨b + 1 + 1 + 1 + 1, 0, none⟩) 1 1] := by
    have h := (Blk.new (((((w.alloc (.cells #[.slice (some ⟨b + 1, 0, none⟩) 2 2, .slice none 0 0, .slice (some ⟨b + 1 + 1 + 1 + 1 + 1, 0, none⟩) 2 2, .slice (some ⟨b + 1 + 1 + 1 + 1 + 1 + 1, 0, none⟩) 1 1, .int .i64 100, .int .i64 60, .slice (some ⟨b + 1 + 1 + 1 + 1 + 1 + 1 + 1 + 1, 0, none⟩) 2 2, .int .i64 0, .slice none 0 0, .slice (some ⟨b + 1 + 1 + 1 + 1 + 1 + 1 + 1 + 1 + 1, 0, none⟩) 2 2, .string ⟨#[106]⟩, .int .i64 0] 34)).alloc (.cells #[.string ⟨#[97]⟩, .string ⟨#[98]⟩] 9)).alloc (.cells #[.slice (some ⟨b + 1, 0, none⟩) 2 2, .slice none 0 0] 24)).alloc (.cells #[.string ⟨#[97]⟩, .string ⟨#[98]⟩] 9)).alloc (.cells #[.string ⟨#[97]⟩] 9)) 60 #[.int .i64 0, .int .i64 1, .slice (some ⟨b + 1 + 1 + 1, 0, none⟩) 2 2, .int .i64 20, .int .i64 10, .slice (some ⟨b + 1 + 1 + 1 + 1, 0, none⟩) 1 1]).below (w' := w1) (by rw [hw1]; exact bpush (bpush (bpush (bpush (Below.refl _ _) _) _) _) _)
    rw [hb] at h ⊢
    simpa using h
  have k6 : Blk w1 (b + 1 + 1 + 1 + 1 + 1 + 1) 51 #[.int .i64 0, .int .i64 5, .slice none 0 0] := by
    have h := (Blk.new ((((((w.alloc (.cells #[.slice (some ⟨b + 1, 0, none⟩) 2 2, .slice none 0 0, .slice (some ⟨b + 1 + 1 + 1 + 1 + 1, 0, none⟩) 2 2, .slice (some ⟨b + 1 + 1 + 1 + 1 + 1 + 1, 0, none⟩) 1 1, .int .i64 100, .int .i64 60, .slice (some ⟨b + 1 + 1 + 1 + 1 + 1 + 1 + 1 + 1, 0, none⟩) 2 2, .int .i64 0, .slice none 0 0, .slice (some ⟨b + 1 + 1 + 1 + 1 + 1 + 1 + 1 + 1 + 1, 0, none⟩) 2 2, .string ⟨#[106]⟩, .int .i64 0] 34)).alloc (.cells #[.string ⟨#[97]⟩, .string ⟨#[98]⟩] 9)).alloc (.cells #[.slice (some ⟨b + 1, 0, none⟩) 2 2, .slice none 0 0] 24)).alloc (.cells #[.string ⟨#[97]⟩, .string ⟨#[98]⟩] 9)).alloc (.cells #[.string ⟨#[97]⟩] 9)).alloc (.cells #[.int .i64 0, .int .i64 1, .slice (some ⟨b + 1 + 1 + 1, 0, none⟩) 2 2, .int .i64 20, .int .i64 10, .slice (some ⟨b + 1 + 1 + 1 + 1, 0, none⟩) 1 1] 60)) 51 #[.int .i64 0, .int .i64 5, .slice none 0 0]).below (w' := w1) (by rw [hw1]; exact bpush (bpush (bpush (Below.refl _ _) _) _) _)
    rw [hb] at h ⊢
    simpa using h
  have k7 : Blk w1 (b + 1 + 1 + 1 + 1 + 1 + 1 + 1) 28 #[.slice (some ⟨b + 1 + 1 + 1 + 1 + 1, 0, none⟩) 2 2, .slice (some ⟨b + 1 + 1 + 1 + 1 + 1 + 1, 0, none⟩) 1 1, .int .i64 100] := by
    have h := (Blk.new (((((((w.alloc (.cells #[.slice (some ⟨b + 1, 0, none⟩) 2 2, .slice none 0 0, .slice (some ⟨b + 1 + 1 + 1 + 1 + 1, 0, none⟩) 2 2, .slice (some ⟨b + 1 + 1 + 1 + 1 + 1 + 1, 0, none⟩) 1 1, .int .i64 100, .int .i64 60, .slice (some ⟨b + 1 + 1 + 1 + 1 + 1 + 1 + 1 + 1, 0, none⟩) 2 2, .int .i64 0, .slice none 0 0, .slice (some ⟨b + 1 + 1 + 1 + 1 + 1 + 1 + 1 + 1 + 1, 0, none⟩) 2 2, .string ⟨#[106]⟩, .int .i64 0] 34)).alloc (.cells #[.string ⟨#[97]⟩, .string ⟨#[98]⟩] 9)).alloc (.cells #[.slice (some ⟨b + 1, 0, none⟩) 2 2, .slice none 0 0] 24)).alloc (.cells #[.string ⟨#[97]⟩, .string ⟨#[98]⟩] 9)).alloc (.cells #[.string ⟨#[97]⟩] 9)).alloc (.cells #[.int .i64 0, .int .i64 1, .slice (some ⟨b + 1 + 1 + 1, 0, none⟩) 2 2, .int .i64 20, .int .i64 10, .slice (some ⟨b + 1 + 1 + 1 + 1, 0, none⟩) 1 1] 60)).alloc (.cells #[.int .i64 0, .int .i64 5, .slice none 0 0] 51)) 28 #[.slice (some ⟨b + 1 + 1 + 1 + 1 + 1, 0, none⟩) 2 2, .slice (some ⟨b + 1 + 1 + 1 + 1 + 1 + 1, 0, none⟩) 1 1, .int .i64 100]).below (w' := w1) (by rw [hw1]; exact bpush (bpush (Below.refl _ _) _) _)
    rw [hb] at h ⊢
    simpa using h
  have k8 : Blk w1 (b + 1 + 1 + 1 + 1 + 1 + 1 + 1 + 1) 3 #[.int .i64 40, .int .i64 0] := by
    have h := (Blk.new ((((((((w.alloc (.cells #[.slice (some ⟨b + 1, 0, none⟩) 2 2, .slice none 0 0, .slice (some ⟨b + 1 + 1 + 1 + 1 + 1, 0, none⟩) 2 2, .slice (some ⟨b + 1 + 1 + 1 + 1 + 1 + 1, 0, none⟩) 1 1, .int .i64 100, .int .i64 60, .slice (some ⟨b + 1 + 1 + 1 + 1 + 1 + 1 + 1 + 1, 0, none⟩) 2 2, .int .i64 0, .slice none 0 0, .slice (some ⟨b + 1 + 1 + 1 + 1 + 1 + 1 + 1 + 1 + 1, 0, none⟩) 2 2, .string ⟨#[106]⟩, .int .i64 0] 34)).alloc (.cells #[.string ⟨#[97]⟩, .string ⟨#[98]⟩] 9)).alloc (.cells #[.slice (some ⟨b + 1, 0, none⟩) 2 2, .slice none 0 0] 24)).alloc (.cells #[.string ⟨#[97]⟩, .string ⟨#[98]⟩] 9)).alloc (.cells #[.string ⟨#[97]⟩] 9)).alloc (.cells #[.int .i64 0, .int .i64 1, .slice (some ⟨b + 1 + 1 + 1, 0, none⟩) 2 2, .int .i64 20, .int .i64 10, .slice (some ⟨b + 1 + 1 + 1 + 1, 0, none⟩) 1 1] 60)).alloc (.cells #[.int .i64 0, .int .i64 5, .slice none 0 0] 51)).alloc (.cells #[.slice (some ⟨b + 1 + 1 + 1 + 1 + 1, 0, none⟩) 2 2, .slice (some ⟨b + 1 + 1 + 1 + 1 + 1 + 1, 0, none⟩) 1 1, .int .i64 100] 28)) 3 #[.int .i64 40, .int .i64 0]).below (w' := w1) (by rw [hw1]; exact bpush (Below.refl _ _) _)
    rw [hb] at h ⊢
    simpa using h
  have k9 : Blk w1 (b + 1 + 1 + 1 + 1 + 1 + 1 + 1 + 1 + 1) 57 #[.string ⟨#[115]⟩, .int .i64 0, .int .i64 (-1), .int .i64 9, .string ⟨#[116]⟩, .int .i64 0, .int .i64 0, .int .i64 4] := by
    have h := (Blk.new (((((((((w.alloc (.cells #[.slice (some ⟨b + 1, 0, none⟩) 2 2, .slice none 0 0, .slice (some ⟨b + 1 + 1 + 1 + 1 + 1, 0, none⟩) 2 2, .slice (some ⟨b + 1 + 1 + 1 + 1 + 1 + 1, 0, none⟩) 1 1, .int .i64 100, .int .i64 60, .slice (some ⟨b + 1 + 1 + 1 + 1 + 1 + 1 + 1 + 1, 0, none⟩) 2 2, .int .i64 0, .slice none 0 0, .slice (some ⟨b + 1 + 1 + 1 + 1 + 1 + 1 + 1 + 1 + 1, 0, none⟩) 2 2, .string ⟨#[106]⟩, .int .i64 0] 34)).alloc (.cells #[.string ⟨#[97]⟩, .string ⟨#[98]⟩] 9)).alloc (.cells #[.slice (some ⟨b + 1, 0, none⟩) 2 2, .slice none 0 0] 24)).alloc (.cells #[.string ⟨#[97]⟩, .string ⟨#[98]⟩] 9)).alloc (.cells #[.string ⟨#[97]⟩] 9)).alloc (.cells #[.int .i64 0, .int .i64 1, .slice (some ⟨b + 1 + 1 + 1, 0, none⟩) 2 2, .int .i64 20, .int .i64 10, .slice (some ⟨b + 1 + 1 + 1 + 1, 0, none⟩) 1 1] 60)).alloc (.cells #[.int .i64 0, .int .i64 5, .slice none 0 0] 51)).alloc (.cells #[.slice (some ⟨b + 1 + 1 + 1 + 1 + 1, 0, none⟩) 2 2, .slice (some ⟨b + 1 + 1 + 1 + 1 + 1 + 1, 0, none⟩) 1 1, .int .i64 100] 28)).alloc (.cells #[.int .i64 40, .int .i64 0] 3)) 57 #[.string ⟨#[115]⟩, .int .i64 0, .int .i64 (-1), .int .i64 9, .string ⟨#[116]⟩, .int .i64 0, .int .i64 0, .int .i64 4]).below (w' := w1) (by rw [hw1]; exact Below.refl _ _)
    rw [hb] at h ⊢
    simpa using h
  refine ⟨hb1, ?_, k0⟩
  exact {
    d := ⟨k1.rowT rfl, rfl, Nat.le_refl _, (fun h => by cases h), by show (2 : Nat) ≤ 9223372036854775807; omega⟩
    mm := ⟨.inl rfl, rfl, Nat.le_refl _, (fun _ => rfl), by show (0 : Nat) ≤ 9223372036854775807; omega⟩
    pi := ⟨⟨k5.rowT rfl, rfl, Nat.le_refl _, by show (2 : Nat) ≤ 9223372036854775807; omega, fun z hz => by
      rcases List.mem_cons.1 hz with rfl | hz
      · exact ⟨k3.rowT rfl, rfl, Nat.le_refl _, (fun h => by cases h), by show (2 : Nat) ≤ 9223372036854775807; omega⟩
      · rcases List.mem_cons.1 hz with rfl | hz
        · exact ⟨k4.rowT rfl, rfl, Nat.le_refl _, (fun h => by cases h), by show (1 : Nat) ≤ 9223372036854775807; omega⟩
        · cases hz⟩, ⟨k6.rowT rfl, rfl, Nat.le_refl _, by show (1 : Nat) ≤ 9223372036854775807; omega, fun z hz => by
      rcases List.mem_cons.1 hz with rfl | hz
      · exact ⟨.inl rfl, rfl, Nat.le_refl _, (fun _ => rfl), by show (0 : Nat) ≤ 9223372036854775807; omega⟩
      · cases hz⟩⟩
    e := k8.rowT rfl
    el := rfl
    em := by show (2 : Nat) ≤ 9223372036854775807; omega
    s := .inl rfl
    sl := rfl
    sm := by show (0 : Nat) ≤ 9223372036854775807; omega
    f := k9.rowT rfl
    fl := rfl
    fm := by show (2 : Nat) ≤ 9223372036854775807; omega
    fs := fun z hz => by
      rcases List.mem_cons.1 hz with rfl | hz
      · show (⟨#[115]⟩ : ByteArray).size ≤ 9223372036854775807; decide
      · rcases List.mem_cons.1 hz with rfl | hz
        · show (⟨#[116]⟩ : ByteArray).size ≤ 9223372036854775807; decide
        · cases hz
    js := by show (⟨#[106]⟩ : ByteArray).size ≤ 9223372036854775807; decide }
set_option maxRecDepth 100000 in
set_option maxHeartbeats 16000000 in
theorem store_any (w : World) : Calls Try.prog 20 #[] w (StP w) := by
  obtain ⟨w1, hw1⟩ : ∃ w1, w1 = ((((((((((w.alloc (.cells #[.slice (some ⟨w.heap.size + 1, 0, none⟩) 2 2, .slice none 0 0, .slice (some ⟨w.heap.size + 1 + 1 + 1 + 1 + 1, 0, none⟩) 2 2, .slice (some ⟨w.heap.size + 1 + 1 + 1 + 1 + 1 + 1, 0, none⟩) 1 1, .int .i64 100, .int .i64 60, .slice (some ⟨w.heap.size + 1 + 1 + 1 + 1 + 1 + 1 + 1 + 1, 0, none⟩) 2 2, .int .i64 0, .slice none 0 0, .slice (some ⟨w.heap.size + 1 + 1 + 1 + 1 + 1 + 1 + 1 + 1 + 1, 0, none⟩) 2 2, .string ⟨#[106]⟩, .int .i64 0] 34)).alloc (.cells #[.string ⟨#[97]⟩, .string ⟨#[98]⟩] 9)).alloc (.cells #[.slice (some ⟨w.heap.size + 1, 0, none⟩) 2 2, .slice none 0 0] 24)).alloc (.cells #[.string ⟨#[97]⟩, .string ⟨#[98]⟩] 9)).alloc (.cells #[.string ⟨#[97]⟩] 9)).alloc (.cells #[.int .i64 0, .int .i64 1, .slice (some ⟨w.heap.size + 1 + 1 + 1, 0, none⟩) 2 2, .int .i64 20, .int .i64 10, .slice (some ⟨w.heap.size + 1 + 1 + 1 + 1, 0, none⟩) 1 1] 60)).alloc (.cells #[.int .i64 0, .int .i64 5, .slice none 0 0] 51)).alloc (.cells #[.slice (some ⟨w.heap.size + 1 + 1 + 1 + 1 + 1, 0, none⟩) 2 2, .slice (some ⟨w.heap.size + 1 + 1 + 1 + 1 + 1 + 1, 0, none⟩) 1 1, .int .i64 100] 28)).alloc (.cells #[.int .i64 40, .int .i64 0] 3)).alloc (.cells #[.string ⟨#[115]⟩, .int .i64 0, .int .i64 (-1), .int .i64 9, .string ⟨#[116]⟩, .int .i64 0, .int .i64 0, .int .i64 4] 57)) := ⟨_, rfl⟩
  obtain ⟨hb1, hm, k0⟩ := store_in (w := w) (w1 := w1) (b := w.heap.size) rfl hw1
  have HB1 := Lib.hid hb1
  have HM := Lib.hid hm
  have HK := Lib.hid k0
  have HW1 := Lib.hid hw1
  clear hw1 hb1 hm k0
  go_enter Try.func20, Try.ntmps20
  go_wp2
  rw [← HW1.out]
  (try simp only [Exit.inBlock, Exit.then])
  refine bodyPost_ret (results_cell_row (P := Try.prog) rfl _ _ w.heap.size 34 _ (0, 0) _ rfl HK.out rfl rfl rfl) rfl ?_
  exact ⟨rfl, HM.out, HB1.out⟩
end Go.Proofs.Ytgaallkdfcckpaa
namespace Go.Proofs.Ytgaallkdfcckpaa
open Go.RowKit Go.Maps Go.Lib Go.Shelf
set_option linter.unusedSimpArgs false
set_option linter.unusedVariables false
def f00 : FT := .mk 0 ⟨#[]⟩ ⟨#[]⟩ none 0 0 []
def qS (t : Nat) (A : Option Addr) (n : Nat) (by_ : List ByteArray) : QZ := { tA := some ⟨t, 0, none⟩, tn := 1, tc := 1, T := [(0, ⟨#[]⟩)], frm := 20, upto := 60, every := 10, bA := A, bn := n, bc := n, BY := by_, f := f00, hA := none, hn := 0, hc := 0, H := [], order := 0, limit := 0 }
theorem f00_leaves : f00.leaves = [] := by rw [FT.leaves_eq]; rfl
theorem f00_dims : f00.dims = [] := by rw [FT.dims_eq]; rfl
theorem qS_in {w : World} {t : Nat} {A : Option Addr} {n : Nat} {by_ : List ByteArray} (h1 : Blk w t 63 #[.int .i64 0, .string ⟨#[]⟩]) (h2 : StrsIn w A n n by_) : QIn w (qS t A n by_) := {
  by_ := h2
  f := FIn.of ⟨.inl rfl, rfl, Nat.le_refl _, by show (0 : Nat) ≤ 9223372036854775807; omega, (by show (⟨#[]⟩ : ByteArray).size ≤ 140737488355328; decide), (by show (⟨#[]⟩ : ByteArray).size ≤ 140737488355328; decide)⟩ (fun k hk => by cases hk)
  trow := h1.rowT rfl
  tlen := rfl
  tcap := Nat.le_refl _
  tmax := by show (1 : Nat) ≤ 9223372036854775807; omega
  hrow := .inl rfl
  hlen := rfl
  hcap := Nat.le_refl _
  hmax := by show (0 : Nat) ≤ 9223372036854775807; omega }
theorem qS_choose {w : World} {t : Nat} {A : Option Addr} {n b : Nat} {by_ : List ByteArray} (hm : MIn w (storeM b)) (hq : QIn w (qS t A n by_)) (hn : n ≤ 1000) : ChOk w (storeM b).dA (storeM b).dn (storeM b).dc (storeM b).D (qS t A n by_) (storeM b).p (storeM b).eA (storeM b).en (storeM b).E (storeM b).fA (storeM b).fn (storeM b).F := {
  u := ⟨hm.d, hq, hn, (by show f00.leaves.length ≤ 1000; rw [f00_leaves]; decide), (by show (2 : Nat) ≤ 1000000; omega)⟩
  pi := hm.pi
  e := hm.e
  el := hm.el
  et := rfl
  e20 := by show (2 : Nat) ≤ 100000; omega
  f := hm.f
  fl := hm.fl
  fm := hm.fm
  j20 := by show (1 : Nat) ≤ 10000; omega }
theorem elig_b (U : List ByteArray) (ev : Int) (b : Nat) : eligC U ev (storeP b) = eligC U ev (storeP 0) := by
  funext x
  unfold eligC cubC atZ
  by_cases h0 : 0 ≤ x.tier
  · rcases h : x.tier.toNat with _ | _ | n
    · by_cases h1 : x.proj = -1
      · simp [storeP, h0, h1, eligZ]
      · by_cases h2 : 0 ≤ x.proj
        · rcases h3 : x.proj.toNat with _ | n
          · simp [storeP, h0, h1, h2, eligZ]
          · simp [storeP, h0, h1, h2, eligZ]
        · simp [storeP, h0, h1, h2, eligZ]
    · by_cases h1 : x.proj = -1
      · simp [storeP, h0, h1, eligZ]
      · by_cases h2 : 0 ≤ x.proj
        · rcases h3 : x.proj.toNat with _ | n
          · simp [storeP, h0, h1, h2, eligZ]
          · simp [storeP, h0, h1, h2, eligZ]
        · simp [storeP, h0, h1, h2, eligZ]
    · simp [storeP, h0, eligZ]
  · simp [h0]
theorem qS_one (t b : Nat) : chooseS (strS (storeM b).E (qS t none 0 []).frm (qS t none 0 []).upto (storeM b).en) (elC (storeM b).D (qS t none 0 []) (storeM b).p) (pickS (elC (storeM b).D (qS t none 0 []) (storeM b).p) (storeM b).F (storeM b).p.jn) = ([⟨40, 60, 0, 0, 4⟩, ⟨20, 40, 1, -1, 0⟩], -1, 0) := by
  have h : usedQ (storeM b).D (qS t none 0 []) = [] := by
    unfold usedQ
    show usedL _ ([] ++ f00.dims) = _
    rw [f00_dims]; rfl
  unfold elC
  rw [h]
  show chooseS (strS [40, 0] 20 60 2) (eligC [] 10 (storeP b)) (pickS (eligC [] 10 (storeP b)) storeF 1) = _
  rw [elig_b]
  decide
theorem qS_two (t b : Nat) (A : Option Addr) : chooseS (strS (storeM b).E (qS t A 1 [⟨#[98]⟩]).frm (qS t A 1 [⟨#[98]⟩]).upto (storeM b).en) (elC (storeM b).D (qS t A 1 [⟨#[98]⟩]) (storeM b).p) (pickS (elC (storeM b).D (qS t A 1 [⟨#[98]⟩]) (storeM b).p) (storeM b).F (storeM b).p.jn) = ([], 1, 261) := by
  have h : usedQ (storeM b).D (qS t A 1 [⟨#[98]⟩]) = [⟨#[98]⟩] := by
    unfold usedQ
    show usedL _ ([⟨#[98]⟩] ++ f00.dims) = _
    rw [f00_dims]; rfl
  unfold elC
  rw [h]
  show chooseS (strS [40, 0] 20 60 2) (eligC [⟨#[98]⟩] 10 (storeP b)) (pickS (eligC [⟨#[98]⟩] 10 (storeP b)) storeF 1) = _
  rw [elig_b]
  decide
set_option maxRecDepth 100000 in
set_option maxHeartbeats 16000000 in
theorem alive_any (w : World) : Calls Try.prog 8 #[] w fun e w' => e = .returned (.bool true) ∧ Below w.heap.size w w' := by
  go_enter Try.func8, Try.ntmps8
  go_upto_region 3 with (go_at_call 20; refine (store_any _).mono ?_; rintro e wa ⟨rfl, hm, hb⟩; have HMA := Lib.hid hm; have HBA := Lib.hid hb; clear hm hb)
  obtain ⟨b, hb⟩ : ∃ b, b = w.heap.size := ⟨_, rfl⟩
  rw [← hb] at HMA ⊢
  obtain ⟨w2, hw2⟩ : ∃ w2, w2 = (wa.alloc (.cells #[.slice (some ⟨b + 1, 0, none⟩) 2 2, .slice none 0 0, .slice (some ⟨b + 1 + 1 + 1 + 1 + 1, 0, none⟩) 2 2, .slice (some ⟨b + 1 + 1 + 1 + 1 + 1 + 1, 0, none⟩) 1 1, .int .i64 100, .int .i64 60, .slice (some ⟨b + 1 + 1 + 1 + 1 + 1 + 1 + 1 + 1, 0, none⟩) 2 2, .int .i64 0, .slice none 0 0, .slice (some ⟨b + 1 + 1 + 1 + 1 + 1 + 1 + 1 + 1 + 1, 0, none⟩) 2 2, .string ⟨#[106]⟩, .int .i64 0] 34)).alloc (.cells #[.int .i64 0, .string ⟨#[]⟩] 63) := ⟨_, rfl⟩
  obtain ⟨w1, hw1⟩ : ∃ w1, w1 = w2.alloc (.cells #[.slice (some ⟨wa.heap.size + 1, 0, none⟩) 1 1, .int .i64 20, .int .i64 60, .int .i64 10, .slice none 0 0, .int .i64 0, .string ⟨#[]⟩, .string ⟨#[]⟩, .slice none 0 0, .slice none 0 0, .int .i64 0, .int .i64 0] 42) := ⟨_, rfl⟩
  have b2 : Below wa.heap.size wa w2 := by rw [hw2]; exact bpush (bpush (Below.refl _ _) _) _
  have b1 : Below w2.heap.size w2 w1 := by rw [hw1]; exact bpush (Below.refl _ _) _
  have sz2 : w2.heap.size = wa.heap.size + 1 + 1 := by rw [hw2]; simp
  have kM : Blk w1 wa.heap.size 34 #[.slice (some ⟨b + 1, 0, none⟩) 2 2, .slice none 0 0, .slice (some ⟨b + 1 + 1 + 1 + 1 + 1, 0, none⟩) 2 2, .slice (some ⟨b + 1 + 1 + 1 + 1 + 1 + 1, 0, none⟩) 1 1, .int .i64 100, .int .i64 60, .slice (some ⟨b + 1 + 1 + 1 + 1 + 1 + 1 + 1 + 1, 0, none⟩) 2 2, .int .i64 0, .slice none 0 0, .slice (some ⟨b + 1 + 1 + 1 + 1 + 1 + 1 + 1 + 1 + 1, 0, none⟩) 2 2, .string ⟨#[106]⟩, .int .i64 0] := by
    have h := (Blk.new wa 34 #[.slice (some ⟨b + 1, 0, none⟩) 2 2, .slice none 0 0, .slice (some ⟨b + 1 + 1 + 1 + 1 + 1, 0, none⟩) 2 2, .slice (some ⟨b + 1 + 1 + 1 + 1 + 1 + 1, 0, none⟩) 1 1, .int .i64 100, .int .i64 60, .slice (some ⟨b + 1 + 1 + 1 + 1 + 1 + 1 + 1 + 1, 0, none⟩) 2 2, .int .i64 0, .slice none 0 0, .slice (some ⟨b + 1 + 1 + 1 + 1 + 1 + 1 + 1 + 1 + 1, 0, none⟩) 2 2, .string ⟨#[106]⟩, .int .i64 0]).below (w' := w1) (by rw [hw1, hw2]; exact bpush (bpush (Below.refl _ _) _) _)
    simpa using h
  have kT : Blk w1 (wa.heap.size + 1) 63 #[.int .i64 0, .string ⟨#[]⟩] := by
    have h := (Blk.new (wa.alloc (.cells #[.slice (some ⟨b + 1, 0, none⟩) 2 2, .slice none 0 0, .slice (some ⟨b + 1 + 1 + 1 + 1 + 1, 0, none⟩) 2 2, .slice (some ⟨b + 1 + 1 + 1 + 1 + 1 + 1, 0, none⟩) 1 1, .int .i64 100, .int .i64 60, .slice (some ⟨b + 1 + 1 + 1 + 1 + 1 + 1 + 1 + 1, 0, none⟩) 2 2, .int .i64 0, .slice none 0 0, .slice (some ⟨b + 1 + 1 + 1 + 1 + 1 + 1 + 1 + 1 + 1, 0, none⟩) 2 2, .string ⟨#[106]⟩, .int .i64 0] 34)) 63 #[.int .i64 0, .string ⟨#[]⟩]).below (w' := w1) (by rw [hw1, hw2]; exact bpush (Below.refl _ _) _)
    simpa using h
  have kQ : Blk w1 (wa.heap.size + 1 + 1) 42 #[.slice (some ⟨wa.heap.size + 1, 0, none⟩) 1 1, .int .i64 20, .int .i64 60, .int .i64 10, .slice none 0 0, .int .i64 0, .string ⟨#[]⟩, .string ⟨#[]⟩, .slice none 0 0, .slice none 0 0, .int .i64 0, .int .i64 0] := by
    have h := Blk.new w2 42 #[.slice (some ⟨wa.heap.size + 1, 0, none⟩) 1 1, .int .i64 20, .int .i64 60, .int .i64 10, .slice none 0 0, .int .i64 0, .string ⟨#[]⟩, .string ⟨#[]⟩, .slice none 0 0, .slice none 0 0, .int .i64 0, .int .i64 0]
    rw [← hw1, sz2] at h
    exact h
  rw [show (wa.alloc (.cells #[.slice (some ⟨b + 1, 0, none⟩) 2 2, .slice none 0 0, .slice (some ⟨b + 1 + 1 + 1 + 1 + 1, 0, none⟩) 2 2, .slice (some ⟨b + 1 + 1 + 1 + 1 + 1 + 1, 0, none⟩) 1 1, .int .i64 100, .int .i64 60, .slice (some ⟨b + 1 + 1 + 1 + 1 + 1 + 1 + 1 + 1, 0, none⟩) 2 2, .int .i64 0, .slice none 0 0, .slice (some ⟨b + 1 + 1 + 1 + 1 + 1 + 1 + 1 + 1 + 1, 0, none⟩) 2 2, .string ⟨#[106]⟩, .int .i64 0] 34)).alloc (.cells #[.int .i64 0, .string ⟨#[]⟩] 63) = w2 from hw2.symm, ← hw1]
  obtain ⟨M, hM⟩ : ∃ M, M = wa.heap.size := ⟨_, rfl⟩
  obtain ⟨T, hT⟩ : ∃ T, T = wa.heap.size + 1 := ⟨_, rfl⟩
  obtain ⟨Q, hQ⟩ : ∃ Q, Q = wa.heap.size + 1 + 1 := ⟨_, rfl⟩
  rw [← hQ, ← hT] at kQ
  rw [← hT] at kT
  rw [← hM] at kM
  rw [← hQ, ← hT, ← hM]
  have HB1 := Lib.hid (show Below w.heap.size w w1 from bthen HBA.out (bthen b2 b1))
  have HM := Lib.hid (HMA.out.keep (Nat.le_refl _) (bthen b2 b1))
  have HKM := Lib.hid kM
  have HKT := Lib.hid kT
  have HKQ := Lib.hid kQ
  have HNE := Lib.hid (show M ≠ Q by omega)
  have HH := Lib.hid (And.intro hb (And.intro hM (And.intro hT hQ)))
  clear hw2 hw1 b2 b1 sz2 kM kT kQ hb hM hT hQ HMA HBA
  have HX1 := Lib.hid (show Calls Try.prog 14 #[.agg #[.slice (some ⟨b + 1, 0, none⟩) 2 2, .slice none 0 0], .agg #[.slice (some ⟨b + 1 + 1 + 1 + 1 + 1, 0, none⟩) 2 2, .slice (some ⟨b + 1 + 1 + 1 + 1 + 1 + 1, 0, none⟩) 1 1, .int .i64 100], .slice (some ⟨b + 1 + 1 + 1 + 1 + 1 + 1 + 1 + 1, 0, none⟩) 2 2, .agg #[.slice (some ⟨T, 0, none⟩) 1 1, .int .i64 20, .int .i64 60, .int .i64 10, .slice none 0 0, .int .i64 0, .string ⟨#[]⟩, .string ⟨#[]⟩, .slice none 0 0, .slice none 0 0, .int .i64 0, .int .i64 0], .slice (some ⟨b + 1 + 1 + 1 + 1 + 1 + 1 + 1 + 1 + 1, 0, none⟩) 2 2] w1 (ChP w1 [⟨40, 60, 0, 0, 4⟩, ⟨20, 40, 1, -1, 0⟩] (-1) 0) from
    choose_any (storeM b).dA (storeM b).mA (storeM b).dn (storeM b).dc (storeM b).mn (storeM b).mc (storeM b).D (qS T none 0 []) (storeM b).p (storeM b).eA (storeM b).en (storeM b).ec (storeM b).E (storeM b).fA (storeM b).fn (storeM b).fc (storeM b).F w1 (qS_choose HM.out (qS_in HKT.out ⟨.inl rfl, rfl, Nat.le_refl _, (fun _ => rfl), by omega⟩) (by omega)) _ _ _ (qS_one T b))
  have HCM := Lib.hid (fun W (h : Blk W M 34 #[.slice (some ⟨b + 1, 0, none⟩) 2 2, .slice none 0 0, .slice (some ⟨b + 1 + 1 + 1 + 1 + 1, 0, none⟩) 2 2, .slice (some ⟨b + 1 + 1 + 1 + 1 + 1 + 1, 0, none⟩) 1 1, .int .i64 100, .int .i64 60, .slice (some ⟨b + 1 + 1 + 1 + 1 + 1 + 1 + 1 + 1, 0, none⟩) 2 2, .int .i64 0, .slice none 0 0, .slice (some ⟨b + 1 + 1 + 1 + 1 + 1 + 1 + 1 + 1 + 1, 0, none⟩) 2 2, .string ⟨#[106]⟩, .int .i64 0]) => m_cells (m := storeM b) h)
  obtain ⟨c0, c1, c2, c3, c4, c5, c6, c7, c8, c9, c10, c11⟩ := HCM.out w1 HKM.out
  obtain ⟨d0, d1, d2, d3, d4, d5, d6, d7, d8, d9, d10, d11⟩ := q_cells (q := qS T none 0 []) HKQ.out
  go_upto_region 4 with (go_at_call 14; refine HX1.out.mono ?_; rintro e w3 ⟨A, m, c, rfl, hm, hr, hb⟩; have HR := Lib.hid hr; have HB3 := Lib.hid hb; clear hr hb)
  obtain ⟨e0, e1, e2, e3, e4, e5, e6, e7, e8, e9, e10, e11⟩ := q_cells (q := qS T none 0 []) (HKQ.out.below HB3.out)
  clear c0 c1 c2 c3 c4 c5 c6 c7 c8 c9 c10 c11 d0 d1 d2 d3 d4 d5 d6 d7 d8 d9 d10 d11
  go_upto_region 6 with fail
  obtain ⟨w4, hw4⟩ : ∃ w4, w4 = (w3.alloc (.cells #[.slice (qS T none 0 []).tA (qS T none 0 []).tn (qS T none 0 []).tc, .int .i64 (qS T none 0 []).frm, .int .i64 (qS T none 0 []).upto, .int .i64 (qS T none 0 []).every, .slice (some ⟨w3.heap.size + 1, 0, none⟩) 1 1, .int .i64 (qS T none 0 []).f.op, .string (qS T none 0 []).f.dim, .string (qS T none 0 []).f.val, .slice (qS T none 0 []).f.A (qS T none 0 []).f.n (qS T none 0 []).f.c, .slice (qS T none 0 []).hA (qS T none 0 []).hn (qS T none 0 []).hc, .int .i64 (qS T none 0 []).order, .int .i64 (qS T none 0 []).limit] 42)).alloc (.cells #[.string ⟨#[98]⟩] 9) := ⟨_, rfl⟩
  have b4 : Below w3.heap.size w3 w4 := by rw [hw4]; exact bpush (bpush (Below.refl _ _) _) _
  have kQ : Blk w4 w3.heap.size 42 #[.slice (qS T none 0 []).tA (qS T none 0 []).tn (qS T none 0 []).tc, .int .i64 (qS T none 0 []).frm, .int .i64 (qS T none 0 []).upto, .int .i64 (qS T none 0 []).every, .slice (some ⟨w3.heap.size + 1, 0, none⟩) 1 1, .int .i64 (qS T none 0 []).f.op, .string (qS T none 0 []).f.dim, .string (qS T none 0 []).f.val, .slice (qS T none 0 []).f.A (qS T none 0 []).f.n (qS T none 0 []).f.c, .slice (qS T none 0 []).hA (qS T none 0 []).hn (qS T none 0 []).hc, .int .i64 (qS T none 0 []).order, .int .i64 (qS T none 0 []).limit] := by
    have h := (Blk.new w3 42 #[.slice (qS T none 0 []).tA (qS T none 0 []).tn (qS T none 0 []).tc, .int .i64 (qS T none 0 []).frm, .int .i64 (qS T none 0 []).upto, .int .i64 (qS T none 0 []).every, .slice (some ⟨w3.heap.size + 1, 0, none⟩) 1 1, .int .i64 (qS T none 0 []).f.op, .string (qS T none 0 []).f.dim, .string (qS T none 0 []).f.val, .slice (qS T none 0 []).f.A (qS T none 0 []).f.n (qS T none 0 []).f.c, .slice (qS T none 0 []).hA (qS T none 0 []).hn (qS T none 0 []).hc, .int .i64 (qS T none 0 []).order, .int .i64 (qS T none 0 []).limit]).below (w' := w4) (by rw [hw4]; exact bpush (Below.refl _ _) _)
    exact h
  have kY : Blk w4 (w3.heap.size + 1) 9 #[.string ⟨#[98]⟩] := by
    have h := Blk.new (w3.alloc (.cells #[.slice (qS T none 0 []).tA (qS T none 0 []).tn (qS T none 0 []).tc, .int .i64 (qS T none 0 []).frm, .int .i64 (qS T none 0 []).upto, .int .i64 (qS T none 0 []).every, .slice (some ⟨w3.heap.size + 1, 0, none⟩) 1 1, .int .i64 (qS T none 0 []).f.op, .string (qS T none 0 []).f.dim, .string (qS T none 0 []).f.val, .slice (qS T none 0 []).f.A (qS T none 0 []).f.n (qS T none 0 []).f.c, .slice (qS T none 0 []).hA (qS T none 0 []).hn (qS T none 0 []).hc, .int .i64 (qS T none 0 []).order, .int .i64 (qS T none 0 []).limit] 42)) 9 #[.string ⟨#[98]⟩]
    rw [← hw4] at h
    simpa using h
  rw [← hw4]
  obtain ⟨Q4, hQ4⟩ : ∃ Q, Q = w3.heap.size := ⟨_, rfl⟩
  obtain ⟨Y, hY⟩ : ∃ Q, Q = w3.heap.size + 1 := ⟨_, rfl⟩
  rw [← hY] at kQ kY
  rw [← hY, ← hQ4]
  rw [← hQ4] at kQ
  have HB4 := Lib.hid (show Below w1.heap.size w1 w4 from bthen HB3.out b4)
  have HR4 := Lib.hid (HR.out.keep (Nat.le_refl _) b4)
  have HKQ4 := Lib.hid kQ
  have HKY := Lib.hid kY
  have HH4 := Lib.hid (And.intro hQ4 hY)
  clear hw4 b4 kQ kY hQ4 hY e0 e1 e2 e3 e4 e5 e6 e7 e8 e9 e10 e11 HR
  have HX2 := Lib.hid (choose_any (storeM b).dA (storeM b).mA (storeM b).dn (storeM b).dc (storeM b).mn (storeM b).mc (storeM b).D (qS T (some ⟨Y, 0, none⟩) 1 [⟨#[98]⟩]) (storeM b).p (storeM b).eA (storeM b).en (storeM b).ec (storeM b).E (storeM b).fA (storeM b).fn (storeM b).fc (storeM b).F w4 (qS_choose (HM.out.keep (Nat.le_refl _) HB4.out) (qS_in (HKT.out.below HB4.out) ⟨HKY.out.rowT rfl, rfl, Nat.le_refl _, (fun h => by cases h), by omega⟩) (by omega)) _ _ _ (qS_two T b _))
  obtain ⟨c0, c1, c2, c3, c4, c5, c6, c7, c8, c9, c10, c11⟩ := HCM.out w4 (HKM.out.below HB4.out)
  obtain ⟨d0, d1, d2, d3, d4, d5, d6, d7, d8, d9, d10, d11⟩ := q_cells (q := qS T (some ⟨Y, 0, none⟩) 1 [⟨#[98]⟩]) HKQ4.out
  go_upto_region 7 with (go_at_call 14; refine HX2.out.mono ?_; rintro e w5 ⟨A9, m9, cap9, rfl, hm5, hr5, hb⟩; have HB5 := Lib.hid hb; clear hb hr5 hm5)
  have HR5 := HR4.out.keep (Nat.le_refl _) HB5.out
  rcases HR5 with h | ⟨ba, off, rfl, hc⟩
  · exact absurd h (by simp [cellsX, encX])
  have hm : m = 2 := hm
  subst hm
  have a0 := hc 0 _ rfl
  have a1 := hc 1 _ rfl
  have a2 := hc 2 _ rfl
  have a3 := hc 3 _ rfl
  have a4 := hc 4 _ rfl
  have a5 := hc 5 _ rfl
  have a6 := hc 6 _ rfl
  have a7 := hc 7 _ rfl
  have a8 := hc 8 _ rfl
  have a9 := hc 9 _ rfl
  clear hc c0 c1 c2 c3 c4 c5 c6 c7 c8 c9 c10 c11 d0 d1 d2 d3 d4 d5 d6 d7 d8 d9 d10 d11
  simp only [Nat.add_zero] at a0 a1 a2 a3 a4 a5 a6 a7 a8 a9
  go_wp2
  go_ret
  exact ⟨rfl, bthen HB1.out (bthen HB4.out HB5.out)⟩
end Go.Proofs.Ytgaallkdfcckpaa
