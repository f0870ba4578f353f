/- Terms and havings in memory; what is known of a query handed in. -/
import Derived.Test.YtgaallkdfcckpaaFI
namespace Go.Proofs.Ytgaallkdfcckpaa
open Go.RowKit Go.Maps Go.Lib
set_option linter.unusedSimpArgs false
set_option linter.unusedVariables false
section
variable {α : Type} (enc : α → List Value) (W : Nat) (hW : ∀ x, (enc x).length = W)
include hW
theorem flat_len : ∀ L : List α, (L.flatMap enc).length = L.length * W := by
  intro L
  induction L with
  | nil => simp
  | cons z L ih => rw [List.flatMap_cons, List.length_append, ih, hW, List.length_cons, Nat.succ_mul]; omega
theorem flat_get : ∀ (L : List α) (k : Nat) (h : k < L.length) (j : Nat) (u : Value), (enc L[k])[j]? = some u → (L.flatMap enc)[k * W + j]? = some u := by
  intro L
  induction L with
  | nil => intro k h; simp at h
  | cons z L ih =>
    intro k h j u hu
    have hj : j < W := by
      rcases Nat.lt_or_ge j W with h1 | h1
      · exact h1
      · rw [List.getElem?_eq_none (by rw [hW]; exact h1)] at hu; cases hu
    rw [List.flatMap_cons]
    cases k with
    | zero => rw [List.getElem?_append_left (by rw [hW]; omega)]; simpa using hu
    | succ k =>
      rw [List.getElem?_append_right (by rw [hW, Nat.succ_mul]; omega)]
      have e : (k + 1) * W + j - (enc z).length = k * W + j := by rw [hW, Nat.succ_mul]; omega
      rw [e]
      exact ih k (by simpa using h) j u (by simpa using hu)
end
def encTm (x : Int × ByteArray) : List Value := [.int .i64 x.1, .string x.2]
def encHv (x : Int × ByteArray × Int × Int) : List Value := [.int .i64 x.1, .string x.2.1, .int .i64 x.2.2.1, .int .i64 x.2.2.2]
def cellsTm (L : List (Int × ByteArray)) : List Value := L.flatMap encTm
def cellsHv (L : List (Int × ByteArray × Int × Int)) : List Value := L.flatMap encHv
theorem term_cells {w : World} {A : Option Addr} {L : List (Int × ByteArray)} (h : Row w A (cellsTm L)) {k : Nat} (hk : k < L.length) :
    ∃ b off, A = some ⟨b, off, none⟩ ∧ w.cell? ⟨b, off + k * 2, none⟩ = some (.int .i64 L[k].1) ∧ w.cell? ⟨b, off + k * 2 + 1, none⟩ = some (.string L[k].2) := by
  have g := fun j u hu => flat_get encTm 2 (fun _ => rfl) L k hk j u hu
  rcases h with h | ⟨b, off, rfl, hc⟩
  · have := flat_len encTm 2 (fun _ => rfl) L
    unfold cellsTm at h
    rw [h] at this; simp at this; omega
  · exact ⟨b, off, rfl, hc _ _ (g 0 _ rfl), hc _ _ (g 1 _ rfl)⟩
theorem having_cells {w : World} {A : Option Addr} {L : List (Int × ByteArray × Int × Int)} (h : Row w A (cellsHv L)) {k : Nat} (hk : k < L.length) :
    ∃ b off, A = some ⟨b, off, none⟩ ∧ w.cell? ⟨b, off + k * 4, none⟩ = some (.int .i64 L[k].1) ∧ w.cell? ⟨b, off + k * 4 + 1, none⟩ = some (.string L[k].2.1) ∧ w.cell? ⟨b, off + k * 4 + 2, none⟩ = some (.int .i64 L[k].2.2.1) ∧ w.cell? ⟨b, off + k * 4 + 3, none⟩ = some (.int .i64 L[k].2.2.2) := by
  have g := fun j u hu => flat_get encHv 4 (fun _ => rfl) L k hk j u hu
  rcases h with h | ⟨b, off, rfl, hc⟩
  · have := flat_len encHv 4 (fun _ => rfl) L
    unfold cellsHv at h
    rw [h] at this; simp at this; omega
  · exact ⟨b, off, rfl, hc _ _ (g 0 _ rfl), hc _ _ (g 1 _ rfl), hc _ _ (g 2 _ rfl), hc _ _ (g 3 _ rfl)⟩
/-- What is known of a query handed in. -/
structure QIn (w : World) (q : QZ) : Prop where
  by_ : StrsIn w q.bA q.bn q.bc q.BY
  f : FIn w q.f
  trow : Row w q.tA (cellsTm q.T)
  tlen : q.tn = q.T.length
  tcap : q.tn ≤ q.tc
  tmax : q.tn ≤ 9223372036854775807
  hrow : Row w q.hA (cellsHv q.H)
  hlen : q.hn = q.H.length
  hcap : q.hn ≤ q.hc
  hmax : q.hn ≤ 9223372036854775807
theorem StrsIn.keep {w w' : World} {B : Nat} {A : Option Addr} {n c : Nat} {L : List ByteArray} (h : StrsIn w A n c L) (hB : w.heap.size ≤ B) (hb : Below B w w') : StrsIn w' A n c L := { h with row := h.row.keep hB hb }
theorem QIn.keep {w w' : World} {B : Nat} {q : QZ} (h : QIn w q) (hB : w.heap.size ≤ B) (hb : Below B w w') : QIn w' q :=
  { h with by_ := h.by_.keep hB hb, f := FIn.keep _ h.f hB hb, trow := h.trow.keep hB hb, hrow := h.hrow.keep hB hb }
end Go.Proofs.Ytgaallkdfcckpaa
