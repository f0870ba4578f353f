/- One text that the document's Parse reads. -/
import Derived.Test.YtgegmbkjkiifaaaZF
namespace Go.Proofs.Ytgegmbkjkiifaaa
open Go.RowKit Go.Lib
set_option linter.unusedSimpArgs false
set_option linter.unusedVariables false
theorem read_step {bs : List Int} {a s0 s : ByteArray} {la J j J2 J3 : Nat} {b2 b3 : Bool} (hN : Nx 0 (la : Int) bs J false (j : Int) J2 b2) (hla : a.size = la) (hT : Tx 24 bs J2 b2 s0 J3 b3) (hs : s = a.extract 0 j ++ s0) :
    (b3 = false ∧ readT a (bs.drop J) = some (s, bs.drop J3)) ∨ (b3 = true ∧ readT a (bs.drop J) = none) := by
  rcases hN with ⟨e1, p1, p2, q1, q2, rfl⟩ | ⟨h1, _, _, rfl⟩
  · have ed : (bs.drop J).drop (J2 - J) = bs.drop J2 := by rw [List.drop_drop]; congr 1; omega
    rcases hT with ⟨l, t, f1, f2, f3, f4, rfl, rfl, rfl⟩ | ⟨f1, rfl, rfl, rfl⟩
    · left
      refine ⟨rfl, ?_⟩
      unfold readT
      rw [e1]; simp only []
      rw [if_neg (by omega), ed, f1]; simp only []
      rw [if_neg (by rw [List.length_drop]; omega)]
      rw [hs]
      simp only [Int.toNat_natCast, List.drop_drop]
      congr 3
      omega
    · right
      refine ⟨rfl, ?_⟩
      unfold readT
      rw [e1]; simp only []
      rw [if_neg (by omega), ed]
      rw [if_pos (by rw [List.length_drop]; rcases f1 with f | f | f | f <;> omega)]
  · right
    refine ⟨?_, ?_⟩
    · rcases hT with ⟨_, _, _, _, _, _, _, _, h⟩ | ⟨_, _, _, h⟩ <;> exact h
    · unfold readT
      simp only []
      rw [if_pos (by rw [hla]; exact h1)]
theorem sB_str {xs : List Int} (h : bytes xs) : sB (strOfNums xs) = xs := by
  rw [sB, strOfNums_data, List.map_map]
  conv => rhs; rw [← List.map_id xs]
  apply List.map_congr_left
  intro x hx
  have := h x hx
  simp [UInt8.toNat_ofNat']
  omega
theorem str_inj {xs ys : List Int} (hx : bytes xs) (hy : bytes ys) (h : strOfNums xs = strOfNums ys) : xs = ys := by
  rw [← sB_str hx, h, sB_str hy]
theorem Bx.under {w w' : World} {mb H : Nat} {V : Value} {I : Nat} {bad : Bool} (h : Bx w mb V I bad) (hb : Below H w w') (hH : mb < H) : Bx w' mb V I bad := by
  obtain ⟨hc, hf⟩ := bcell hb
  exact ⟨(hc _ _ hH).trans h.1, (hc _ _ hH).trans h.2.1, (hc _ _ hH).trans h.2.2.1, fun o => ⟨(hf _ _ hH).trans (h.2.2.2 o).1, fun ho => (hc _ _ hH).trans ((h.2.2.2 o).2 ho)⟩⟩
theorem RowX.under {w w' : World} {mb : Nat} {A : Option Addr} {bs : List Int} (h : RowX w mb A bs) (hb : Below w.heap.size w w') : RowX w' mb A bs := by
  rcases h with rfl | ⟨b, off, h1, h2, h3⟩
  · exact .inl rfl
  · exact .inr ⟨b, off, h1, h2, fun j u hu => cell_on hb (h3 j u hu)⟩
theorem readD_pos {bs : List Int} {p : List ByteArray × List Int} (h : readD bs = some p) : 0 < bs.length := by
  cases bs with
  | nil => unfold readD at h; simp [numP, numU, numAux] at h
  | cons x xs => simp
theorem no_acc_step {bs cs : List Int} {m k J J3 : Nat} {L : List ByteArray} {a s : ByteArray} {b3 : Bool} (hd : readD bs = readL m ⟨#[]⟩ cs) (hk : k < m) (h1 : readL k ⟨#[]⟩ cs = some (L, bs.drop J)) (ha : a = lastT ⟨#[]⟩ L)
    (hst : (b3 = false ∧ readT a (bs.drop J) = some (s, bs.drop J3)) ∨ (b3 = true ∧ readT a (bs.drop J) = none)) (hbad : b3 = true ∨ ¬ fitsT s ∨ (0 < k ∧ ¬ ltT a s)) (D : List ByteArray) : ¬ acc bs D := by
  subst ha
  rcases hst with ⟨hb, h2⟩ | ⟨hb, h2⟩
  · rcases hbad with h | h
    · rw [hb] at h; cases h
    · exact no_acc_next hd h1 h2 hk h D
  · exact no_acc (by rw [hd]; exact readL_fail _ _ _ _ _ h1 h2 _ hk) D
theorem leq_yes {a b : ByteArray} (h : ¬ ltT b a) : (Op.bytesLess a.toList b.toList || a.toList == b.toList) = true := by
  rcases lt_tri a b with h1 | rfl | h1
  · rw [less_bool, decide_eq_true h1]; rfl
  · simp
  · exact absurd h1 h
theorem leq_no {a b : ByteArray} (h : ltT b a) : (Op.bytesLess a.toList b.toList || a.toList == b.toList) = false := by
  rw [less_bool, decide_eq_false (lt_asy h), str_ne (fun e => lt_irr _ (e ▸ h))]
  rfl
theorem tx24 {bs : List Int} {I J : Nat} {bad b : Bool} {s0 : ByteArray} (hT : Tx 24 bs I bad s0 J b) : s0.size ≤ 24 := by
  rcases hT with ⟨l, t, _, _, h24, _, rfl, _⟩ | ⟨_, rfl, _⟩
  · rw [str_size]; simp; omega
  · decide
end Go.Proofs.Ytgegmbkjkiifaaa
