import Derived.Test.YtgegmbkjkiifaaaGI
import Derived.Deep.RegionHeld3
import Derived.IntWalk
namespace Go.Proofs.Ytgegmbkjkiifaaa
open Go.RowKit
set_option linter.unusedSimpArgs false
theorem groups_small {u : Nat} (h : u < 128) : groupsZ u = 1 := by
  have : Lib.bitLen u ≤ 7 := by
    have := Lib.bitLenAux_fuel 7 u h 64 (by omega)
    unfold Lib.bitLen; rw [this]; exact bitLenAux_le 7 u
  unfold groupsZ; omega
theorem groups_more {u : Nat} (h : 128 ≤ u) (h2 : u < 2 ^ 64) : groupsZ u = 1 + groupsZ (u / 128) := by
  have e := Lib.bitLen_shift 7 u h h2
  have e2 : u / 2 ^ 7 = u / 128 := rfl
  rw [e2] at e
  have h1 : 1 ≤ Lib.bitLen (u / 128) := by unfold Lib.bitLen; rw [Lib.bitLenAux, if_neg (by omega)]; omega
  unfold groupsZ; rw [e]; omega
theorem strOf_sB (s : ByteArray) : strOfNums (sB s) = s := by
  apply ByteArray.ext
  apply Array.ext'
  rw [strOfNums_data, sB, List.map_map]
  conv => rhs; rw [← List.map_id s.data.toList]
  apply List.map_congr_left
  intro b _
  simp
theorem conv_row {w : World} {b off c : Nat} {xs : List Int} (h : Row w (some ⟨b, off, none⟩) (xs.map (Value.int .u8))) {n : Nat} (hn : n = xs.length) :
    Sem.run Try.prog (convert 40 9 (.slice (some ⟨b, off, none⟩) n c)) w = .ok (.string (strOfNums xs)) w := by
  subst hn
  refine run_convert_bytes_arg (P := Try.prog) w 40 5 Try.underlying40 Try.underlying5 b off xs.length c xs rfl (fun i hi => ?_) 9 Try.underlying9
  rcases h with h | ⟨b', off', he, hc⟩
  · simp at h; subst h; simp at hi
  · cases he
    rw [List.getD_eq_getElem?_getD, List.getElem?_eq_getElem hi]
    exact hc i _ (by rw [List.getElem?_map, List.getElem?_eq_getElem hi]; rfl)
theorem row_on {W w1 : World} {A : Option Addr} {xs : List Value} (hb : Below W.heap.size W w1) (h : Row W A xs) : Row w1 A xs := h.keep (Nat.le_refl _) hb
theorem below_on {V W w1 : World} (hb : Below W.heap.size W w1) (h : Below V.heap.size V W) : Below V.heap.size V w1 := bthen h hb
theorem conv_q {w : World} {b off c : Nat} {xs : List Int} (h : Row w (some ⟨b, off, none⟩) (xs.map (Value.int .u8))) {n : Nat} {q : ByteArray} (hn : n = xs.length) (hq : q = strOfNums xs) :
    Sem.run Try.prog (convert 40 9 (.slice (some ⟨b, off, none⟩) n c)) w = .ok (.string q) w := by subst hq; exact conv_row h hn
end Go.Proofs.Ytgegmbkjkiifaaa
