/- places, pick. those, Split. Split. -/
import Derived.Test.YtmmeekmiildliaaGreatDoorNS
import Derived.Test.YtmmeekmiildliaaGreatDoorRA
import Derived.Deep.DeepCutAuto
import Derived.Test.YtmmeekmiildliaaGreatDoorSM
import Derived.Test.YtmmeekmiildliaaGreatDoorRH
import Derived.Laws.EntriesVeiled
namespace Go.Proofs.YtmmeekmiildliaaGreatDoor
open Go.RowKit
set_option linter.unusedSimpArgs false
set_option linter.unusedVariables false
theorem cinfo52 : (Tryz.prog.info? 3).map (fun i => (i.zero, i.size, i.bytes)) = some (some (.int .i64 0), 1, 8) := by kernel_rfl
theorem cinfo22 : (Tryz.prog.info? 9).map (fun i => (i.zero, i.size, i.bytes)) = some (some (.string ⟨#[]⟩), 1, 16) := by kernel_rfl
/-- Where names stand. -/
def PlcIs (L M : List ByteArray) (I : List Nat) : Prop := I.length ≤ M.length ∧ ∀ j (h : j < I.length) (hm : j < M.length), ∃ hj : I[j] < L.length, L[I[j]] = M[j]
def ints (I : List Nat) : List Value := I.map fun (i : Nat) => Value.int .i64 (i : Int)
theorem ints_at {w : World} {A : Option Addr} {I : List Nat} {j : Nat} (hA : Row w A (ints I)) (hj : j < I.length) : ∃ b off, A = some ⟨b, off, none⟩ ∧ w.cell? ⟨b, off + j, none⟩ = some (.int .i64 (I[j] : Int)) := by
  rcases hA with hA | ⟨b, off, rfl, hc⟩
  · have := congrArg List.length hA; simp [ints] at this; rw [this] at hj; simp at hj
  · exact ⟨b, off, rfl, hc j _ (by simp [ints, hj])⟩
theorem ints_snoc (I : List Nat) (i : Nat) : ints I ++ [.int .i64 (i : Int)] = ints (I ++ [i]) := by simp [ints]
theorem ints_len (I : List Nat) : (ints I).length = I.length := by simp [ints]
theorem texts_snoc (L : List ByteArray) (s : ByteArray) : texts L ++ [.string s] = texts (L ++ [s]) := by simp [texts]
theorem own_int {B : Nat} {w : World} {v : Value} {n : Nat} {I : List Nat} (h : w.ownsRow B 3 1 v n (ints I)) : n = I.length ∧ ∃ A c, v = .slice A n c ∧ Row w A (ints I) ∧ n ≤ c ∧ (A = none → c = 0) := by
  have := h.1
  rw [ints_len] at this
  exact ⟨by omega, own_slice h⟩
/-- The values that stand at some places. -/
def pickL (D : List ByteArray) (I : List Nat) : List ByteArray := I.filterMap fun i => D[i]?
theorem pickL_snoc (D : List ByteArray) (I : List Nat) (i : Nat) (h : i < D.length) : pickL D (I ++ [i]) = pickL D I ++ [D[i]] := by
  unfold pickL; rw [List.filterMap_append]; simp [h]
theorem pickL_len (D : List ByteArray) : ∀ I : List Nat, (∀ i ∈ I, i < D.length) → (pickL D I).length = I.length := by
  intro I
  induction I with
  | nil => intro _; rfl
  | cons i I ih =>
    intro h
    have hi := h i (List.mem_cons_self ..)
    unfold pickL
    rw [List.filterMap_cons, List.getElem?_eq_getElem hi]
    simp only [List.length_cons]
    have := ih fun j hj => h j (List.mem_cons_of_mem _ hj)
    unfold pickL at this
    rw [this]
end Go.Proofs.YtmmeekmiildliaaGreatDoor
namespace Go.Proofs.YtmmeekmiildliaaGreatDoor
open Go.RowKit Go.Shelf
set_option linter.unusedSimpArgs false
set_option linter.unusedVariables false
def stay (st : Int → Bool) (Z : List RZ) : List RZ := Z.filter fun z => st z.2.t
def ThosePost (w : World) (st : Int → Bool) (Z : List RZ) (e : Ending) (w' : World) : Prop := ∃ A n c Y, e = .returned (.slice A n c) ∧ n = (stay st Z).length ∧ w'.ownsRow w.heap.size 59 4 (.slice A n c) n (cellsR Y) ∧ Y.map Prod.snd = (stay st Z).map Prod.snd ∧ (∀ y ∈ Y, Owned w.heap.size w' y) ∧ Below w.heap.size w w'
end Go.Proofs.YtmmeekmiildliaaGreatDoor
namespace Go.Proofs.YtmmeekmiildliaaGreatDoor
open Go.RowKit Go.Shelf
set_option linter.unusedSimpArgs false
set_option linter.unusedVariables false
def SplitPost (w : World) (x : Int) (Z : List RZ) (e : Ending) (w' : World) : Prop := ∃ A n c A2 n2 c2 Y Y2, e = .returned (.tuple #[.slice A n c, .slice A2 n2 c2]) ∧ n = (stay (fun t => decide (t < x)) Z).length ∧ n2 = (stay (fun t => decide (x ≤ t)) Z).length ∧ RowsC w' A Y ∧ RowsC w' A2 Y2 ∧ n ≤ c ∧ n2 ≤ c2 ∧ Y.map Prod.snd = (stay (fun t => decide (t < x)) Z).map Prod.snd ∧ Y2.map Prod.snd = (stay (fun t => decide (x ≤ t)) Z).map Prod.snd ∧ Below w.heap.size w w'
end Go.Proofs.YtmmeekmiildliaaGreatDoor
