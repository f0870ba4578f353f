/- A block tells its bytes. -/
import Derived.Test.YthogafecplhckaaDoorCT
import Derived.Test.YthogafecplhckaaDoorGY
import Derived.Deep.RegionHeld3
import Derived.StillTactics
import Derived.OwnWalk
namespace Go.Proofs.YthogafecplhckaaDoor
open Go.RowKit
set_option linter.unusedSimpArgs false
set_option linter.unusedVariables false
theorem blockL_inj {xs ys : List Int} (hx : xs.length ≤ 100000) (hy : ys.length ≤ 100000) (h : blockL xs = blockL ys) : xs = ys := by
  have e1 : ∀ zs : List Int, blockL zs = encV (zs.length : Int) ++ (zs ++ sumB (sumN (headL zs))) := by
    intro zs; unfold blockL headL; rw [List.append_assoc]
  have h1 := numP_enc (v := (xs.length : Int)) (by omega) (by omega) (xs ++ sumB (sumN (headL xs)))
  have h2 := numP_enc (v := (ys.length : Int)) (by omega) (by omega) (ys ++ sumB (sumN (headL ys)))
  rw [← e1] at h1 h2
  rw [h, h2] at h1
  have hl : xs.length = ys.length := by
    have := congrArg Prod.fst h1
    simp at this; omega
  rw [e1 xs, e1 ys, hl] at h
  exact (List.append_inj (List.append_cancel_left h) hl).1
theorem blockL_bytes {xs : List Int} (h : bytes xs) : bytes (blockL xs) := by
  intro z hz
  rcases List.mem_append.1 hz with hz | hz
  · exact head_bytes h z hz
  · exact sumB_bytes _ z hz
theorem blockL_iff {xs ys : List Int} (hx : xs.length ≤ 100000) (hy : ys.length ≤ 100000) : (blockL xs = blockL ys) ↔ xs = ys := ⟨blockL_inj hx hy, fun h => by rw [h]⟩
theorem strOf_back {a : List Int} (ha : bytes a) : (strOfNums a).data.toList.map (fun c => (c.toNat : Int)) = a := by
  rw [strOfNums_data, List.map_map]
  conv => rhs; rw [← List.map_id a]
  apply List.map_congr_left
  intro x hx
  obtain ⟨h0, h1⟩ := ha x hx
  simp only [Function.comp, id, UInt8.toNat_ofNat']
  omega
theorem strOf_inj {a b : List Int} (ha : bytes a) (hb : bytes b) (h : strOfNums a = strOfNums b) : a = b := by
  rw [← strOf_back ha, ← strOf_back hb, h]
theorem conv_zero (D : Option Addr) (c : Nat) (w : World) : Sem.run Tryd.prog (convert 25 9 (.slice D 0 c)) w = .ok (.string (strOfNums [])) w := by
  cases D with
  | none => exact run_convert_bytes_nil w 25 5 Tryd.underlying25 Tryd.underlying5 0 c 9 Tryd.underlying9
  | some a =>
    have hl : (loadCells a 0).run Tryd.prog w = .ok (([] : List Int).map (Value.int .u8)).toArray w := by
      have := run_loadCells_list (P := Tryd.prog) w a [] (fun j v hj => by simp at hj)
      simpa using this
    rw [run_convert_bytes_string w 25 9 5 _ 0 c Tryd.underlying25 Tryd.underlying5 Tryd.underlying9, run_bytesToString w _ 0 c [] hl]
    rfl
theorem conv_any {w : World} {D : Option Addr} {n c : Nat} {xs : List Int} (h : Row w D (xs.map (Value.int .u8))) (hn : n = xs.length) :
    Sem.run Tryd.prog (convert 25 9 (.slice D n c)) w = .ok (.string (strOfNums xs)) w := by
  rcases h with h | ⟨b, off, rfl, hc⟩
  · simp at h; subst h; subst hn; exact conv_zero D c w
  · exact conv_row (.inr ⟨b, off, rfl, hc⟩) hn
def TellS (w : World) (A : Option Addr) (n c : Nat) (q : ByteArray) : Prop := ∃ xs : List Int, Row w A (xs.map (Value.int .u8)) ∧ n = xs.length ∧ q = strOfNums xs ∧ Sem.run Tryd.prog (convert 25 9 (.slice A n c)) w = .ok (.string q) w
/-- A block of bytes that may be written. -/
def Pc (w : World) (g n : Nat) : Prop := ∃ cur, w.heap[g]? = some (.cells cur 5 (0, 0)) ∧ ∀ j, j < n → ∃ z : Int, 0 ≤ z ∧ z ≤ 255 ∧ cur[j]? = some (.int .u8 z)
theorem Pc.cell {w : World} {g n j : Nat} (h : Pc w g n) (hj : j < n) : ∃ z : Int, 0 ≤ z ∧ z ≤ 255 ∧ w.cell? ⟨g, j, none⟩ = some (.int .u8 z) := by
  obtain ⟨cur, h1, h2⟩ := h
  obtain ⟨z, z1, z2, z3⟩ := h2 j hj
  exact ⟨z, z1, z2, by rw [cell_of_row w g j cur 5 (0, 0) h1]; exact z3⟩
theorem Pc.frozen {w : World} {g n : Nat} (h : Pc w g n) (j : Nat) : w.frozen? ⟨g, j, none⟩ = false := by
  obtain ⟨cur, h1, h2⟩ := h
  simp [World.frozen?, h1]
theorem Pc.set_ {w : World} {g n k : Nat} (h : Pc w g n) {u : Int} (h0 : 0 ≤ u) (h9 : u ≤ 255) : Pc (w.setCell ⟨g, k, none⟩ (.int .u8 u)) g n := by
  obtain ⟨cur, h1, h2⟩ := h
  refine ⟨cur.setIfInBounds k (.int .u8 u), by simp [World.setCell, Array.getElem?_modify, h1], fun j hj => ?_⟩
  obtain ⟨z, z1, z2, z3⟩ := h2 j hj
  by_cases e : k = j
  · subst e
    have hs : k < cur.size := by
      rcases Nat.lt_or_ge k cur.size with h | h
      · exact h
      · rw [Array.getElem?_eq_none h] at z3; cases z3
    exact ⟨u, h0, h9, by simp [Array.getElem?_setIfInBounds, hs]⟩
  · exact ⟨z, z1, z2, by rw [Array.getElem?_setIfInBounds, if_neg e]; exact z3⟩
end Go.Proofs.YthogafecplhckaaDoor
