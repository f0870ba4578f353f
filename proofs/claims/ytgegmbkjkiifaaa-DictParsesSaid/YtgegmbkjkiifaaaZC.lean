/- The document's reader: a text, bytes. -/
import Derived.Test.YtgegmbkjkiifaaaZB
namespace Go.Proofs.Ytgegmbkjkiifaaa
open Go.RowKit
set_option linter.unusedSimpArgs false
set_option linter.unusedVariables false
set_option maxRecDepth 100000
theorem conv_nil (w : World) : Sem.run Try.prog (convert 40 9 (.slice none 0 0)) w = .ok (.string (strOfNums [])) w := by
  have h1 := Try.underlying40
  have h2 := Try.underlying9
  have h3 := Try.underlying5
  go_simp
  rfl
/-- A value that is a slice of these bytes. -/
def SV (w : World) (v : Value) (xs : List Int) : Prop := ∃ A c, v = .slice A xs.length c ∧ Row w A (xs.map (Value.int .u8)) ∧ (A = none → c = 0)
theorem conv_sv {w : World} {v : Value} {xs : List Int} (h : SV w v xs) : Sem.run Try.prog (convert 40 9 v) w = .ok (.string (strOfNums xs)) w := by
  obtain ⟨A, c, rfl, hr, hn⟩ := h
  cases xs with
  | nil =>
    cases A with
    | none => rw [hn rfl]; exact conv_nil w
    | some a =>
      have h1 := Try.underlying40
      have h2 := Try.underlying9
      have h3 := Try.underlying5
      go_simp
      rfl
  | cons x xs =>
    rcases hr with h | ⟨b, off, rfl, hc⟩
    · simp at h
    · exact run_convert_bytes_arg (P := Try.prog) w 40 5 Try.underlying40 Try.underlying5 b off _ c (x :: xs) rfl (fun i hi => hc i _ (by
        rw [List.getElem?_map, List.getElem?_eq_getElem hi, List.getD_eq_getElem?_getD, List.getElem?_eq_getElem hi]; rfl)) 9 Try.underlying9
/-- The bytes lie in a block that is not the reader's. -/
def RowX (w : World) (mb : Nat) (A : Option Addr) (bs : List Int) : Prop :=
  bs = [] ∨ ∃ b off, A = some ⟨b, off, none⟩ ∧ b ≠ mb ∧ ∀ j u, (bs.map (Value.int .u8))[j]? = some u → w.cell? ⟨b, off + j, none⟩ = some u
theorem RowX.row {w : World} {mb : Nat} {A : Option Addr} {bs : List Int} (h : RowX w mb A bs) : Row w A (bs.map (Value.int .u8)) := by
  rcases h with rfl | ⟨b, off, h1, _, h2⟩
  · exact .inl rfl
  · exact .inr ⟨b, off, h1, h2⟩
theorem RowX.far {w w' : World} {mb : Nat} {A : Option Addr} {bs : List Int} (h : RowX w mb A bs) (hg : w.grownBy w' (some mb)) : RowX w' mb A bs := by
  rcases h with rfl | ⟨b, off, h1, h2, h3⟩
  · exact .inl rfl
  · exact .inr ⟨b, off, h1, h2, fun j u hu => hg.cell (h3 j u hu) (by simpa using h2)⟩
theorem RowX.keep {w w' : World} {mb : Nat} {A : Option Addr} {bs : List Int} {row : Option Nat} (h : RowX w mb A bs) (hg : w.grownBy w' row) (hr : ∀ b off, A = some ⟨b, off, none⟩ → some b ≠ row) : RowX w' mb A bs := by
  rcases h with rfl | ⟨b, off, h1, h2, h3⟩
  · exact .inl rfl
  · exact .inr ⟨b, off, h1, h2, fun j u hu => hg.cell (h3 j u hu) (hr b off h1)⟩
theorem RowX.sub {w : World} {mb : Nat} {A : Option Addr} {bs : List Int} {n c I M : Nat} (h : RowX w mb A bs) (hz : n = bs.length) (hI : I + M ≤ n) (hc : c ≠ I) (hnil : A = none → c = 0) :
    SV w (.slice (A.map fun x => x.add I) M (c - I)) ((bs.drop I).take M) := by
  have hl : ((bs.drop I).take M).length = M := by rw [List.length_take, List.length_drop]; omega
  refine ⟨_, _, by rw [hl], ?_, ?_⟩
  · rcases h with rfl | ⟨b, off, rfl, _, h3⟩
    · exact .inl (by simp)
    · refine .inr ⟨b, off + I, by simp [Addr.add], fun j u hu => ?_⟩
      rw [Nat.add_assoc]
      refine h3 (I + j) u ?_
      rw [List.getElem?_map, List.getElem?_take] at hu
      rw [List.getElem?_map]
      split at hu
      · rw [List.getElem?_drop] at hu; exact hu
      · simp at hu
  · intro h0
    have := hnil (by simpa using h0)
    omega
theorem RowX.sub0 (w : World) (A : Option Addr) {bs : List Int} {I : Nat} : SV w (.slice A 0 0) ((bs.drop I).take 0) := ⟨A, 0, by simp, .inl (by simp), fun _ => rfl⟩
end Go.Proofs.Ytgegmbkjkiifaaa
