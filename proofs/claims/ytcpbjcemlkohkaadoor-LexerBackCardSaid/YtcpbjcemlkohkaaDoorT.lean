/- Texts; the token that a text begins with. -/
import Derived.Test.YtcpbjcemlkohkaaDoorR
namespace Go.Proofs.YtcpbjcemlkohkaaDoor
open Go.RowKit
set_option linter.unusedSimpArgs false
set_option linter.unusedVariables false
theorem slice_mid (s : ByteArray) (a p : Nat) (h : a ≤ p) (hp : p ≤ s.size) (W : World) : Sem.run Tryd.prog (Instr.slice 9 (.string s) (some (.int .i64 (a : Int))) (some (.int .i64 (p : Int))) none) W = .ok (.string (s.extract a p)) W := by
  have := run_slice_string (P := Tryd.prog) (w := W) 9 s .i64 .i64 (a : Int) (p : Int) Tryd.underlying9 (by omega) (by omega) (by omega)
  simpa using this
theorem slice_from (s : ByteArray) (a : Nat) (h : a ≤ s.size) (W : World) : Sem.run Tryd.prog (Instr.slice 9 (.string s) (some (.int .i64 (a : Int))) none none) W = .ok (.string (s.extract a s.size)) W := by
  have := run_slice_string_l (P := Tryd.prog) (w := W) (t := 9) (s := s) Tryd.underlying9 .i64 (a : Int) (by omega) (by omega)
  simpa using this
set_option maxRecDepth 100000 in
set_option maxHeartbeats 8000000 in
theorem text_any (s : ByteArray) (w : World) (hs : s.size ≤ 1000000) (h0 : 0 < s.size) (h1 : s[0] = 34) : Calls Tryd.prog 31 #[.string s] w (FoundP w (firstT (dat s))) := by
  obtain ⟨n, hn⟩ : ∃ n, n = 1 + cnt notQ ((dat s).drop 1) := ⟨_, rfl⟩
  have hnz : n ≤ s.size := by have := cnt_le notQ ((dat s).drop 1); rw [List.length_drop, dat_len] at this; omega
  have hn1 : 1 ≤ n := by omega
  have HFF := Lib.hid (show firstT (dat s) = if n = s.size then none else if valB (((dat s).take n).drop 1) = true then some ((2, bsOf (((dat s).take n).drop 1), 0), n + 1) else none by
    have hv : ((dat s).take n).drop 1 = ((dat s).drop 1).take (cnt notQ ((dat s).drop 1)) := by rw [List.drop_take]; congr 1; omega
    rw [hv]
    have e : dat s = 34 :: (dat s).drop 1 := by rw [← h1]; exact dat_cons s h0
    have hl : ((dat s).drop 1).length = s.size - 1 := by rw [List.length_drop, dat_len]
    conv => lhs; rw [e]
    unfold firstT
    simp only []
    rw [if_neg (by decide), if_neg (by decide)]
    simp only [if_true]
    by_cases h : n = s.size
    · rw [if_pos h, if_pos (by omega)]
    · rw [if_neg h, if_neg (by omega)]
      split
      · congr 2; omega
      · rfl)
  obtain ⟨b, hb⟩ : ∃ b, b = s.extract 1 n := ⟨_, rfl⟩
  have hbe : bsOf (((dat s).take n).drop 1) = b := by rw [hb, ext_mid]
  have hbd : ((dat s).take n).drop 1 = dat b := by rw [← hbe]; rfl
  rw [hbe, hbd] at HFF
  have sl := slice_mid s 1 n hn1 hnz
  rw [← hb] at sl
  have sl : ∀ W, Sem.run Tryd.prog (Instr.slice 9 (.string s) (some (.int .i64 1)) (some (.int .i64 (n : Int))) none) W = .ok (.string b) W := sl
  have hbs : b.size ≤ 1000000 := by rw [← hbe, size_bs, List.length_drop, List.length_take]; omega
  obtain ⟨z, hz⟩ : ∃ z, s.size = z := ⟨_, rfl⟩
  obtain ⟨r, hr⟩ : ∃ r, r = valB (dat b) := ⟨_, rfl⟩
  have HR := Lib.hid (show r = true ↔ valP b by rw [valP_iff, hr])
  have HRR := Lib.hid hr
  have HN := Lib.hid hn
  have hz9 : z ≤ 1000000 := by omega
  have hnz2 : n ≤ z := by omega
  rw [hz] at HFF
  have HW1 := Lib.hid (show Below w.heap.size w (w.alloc (.cells #[.int .i64 0, .string ⟨#[]⟩, .int .i64 0] 31)) from bpush (Below.refl _ _) _)
  clear hn h1 hb hbe hbd hr
  by_cases hnn : n = z
  · have HF := Lib.hid (show firstT (dat s) = none by rw [HFF.out, if_pos hnn])
    have HX := Lib.hid hnn
    have he : ((n : Int) == (z : Int)) = true := by rw [hnn]; simp
    clear hnn
    go_enter Tryd.func31, Tryd.ntmps31
    go_wp2_with fail
    refine (endq_any s _ hs h0 n HN.out).mono ?_
    rintro e w1 ⟨rfl, rfl⟩
    go_wp2_with fail
    exact bodyPost_ret (v := .tuple #[.agg #[.int .i64 0, .string ⟨#[]⟩, .int .i64 0], .int .i64 0]) (by simp [results, Tryd.results31, go_sem]) rfl ⟨.inr ⟨HF.out, rfl⟩, (Below.refl _ _).alloc (Nat.le_refl _) _⟩

  · have he : ((n : Int) == (z : Int)) = false := by rw [beq_eq_false_iff_ne]; omega
    have hnz3 : n < z := by omega
    have HNN := Lib.hid hnn
    clear hnn
    go_enter Tryd.func31, Tryd.ntmps31
    go_wp2_with fail
    refine (endq_any s _ hs h0 n HN.out).mono ?_
    rintro e w1 ⟨rfl, rfl⟩
    go_wp2_with fail
    refine (value_any b _ (by omega) r HR.out).mono ?_
    rintro e w2 ⟨rfl, hb2⟩
    have HB2 := Lib.hid (bthen HW1.out hb2)
    obtain ⟨g0, g1, g2⟩ : w2.cell? ⟨w.heap.size, 0, none⟩ = some (.int .i64 0) ∧ w2.cell? ⟨w.heap.size, 1, none⟩ = some (.string ⟨#[]⟩) ∧ w2.cell? ⟨w.heap.size, 2, none⟩ = some (.int .i64 0) := ⟨cell_on hb2 (cell_made (by simp) rfl), cell_on hb2 (cell_made (by simp) rfl), cell_on hb2 (cell_made (by simp) rfl)⟩
    have gf : ∀ o, w2.frozen? ⟨w.heap.size, o, none⟩ = false := fun o => (hb2.frozen (p := ⟨w.heap.size, o, none⟩) (by simp)).trans (by simp)
    have hlt2 : w.heap.size < w2.heap.size := lt_of_cell g0
    clear hb2
    cases r with
    | false =>
      have HF := Lib.hid (show firstT (dat s) = none by rw [HFF.out, if_neg HNN.out, ← HRR.out, if_neg (by decide)])
      go_wp2_with fail
      obtain ⟨r0, r1, r2, rb⟩ := res3 ((.int .i64 0)) ((.string ⟨#[]⟩)) ((.int .i64 0)) (Nat.le_refl w.heap.size) g0 g1 g2
      have RB := Lib.hid rb
      clear rb g0 g1 g2 gf
      generalize ((w2.setCell _ _).setCell _ _).setCell _ _ = w9 at *
      exact bodyPost_ret (v := .tuple #[.agg #[(.int .i64 0), (.string ⟨#[]⟩), (.int .i64 0)], (.int .i64 0)]) (by simp [results, Tryd.results31, go_sem, r0, r1, r2]) rfl ⟨.inr ⟨HF.out, rfl⟩, HB2.out.trans RB.out⟩

    | true =>
      have HF := Lib.hid (show firstT (dat s) = some ((2, b, 0), n + 1) by rw [HFF.out, if_neg HNN.out, ← HRR.out, if_pos rfl])
      go_wp2_with fail
      obtain ⟨r0, r1, r2, rb⟩ := res3 ((.int .i64 2)) ((.string b)) ((.int .i64 0)) (Nat.le_refl w.heap.size) g0 g1 g2
      have RB := Lib.hid rb
      clear rb g0 g1 g2 gf
      generalize ((w2.setCell _ _).setCell _ _).setCell _ _ = w9 at *
      exact bodyPost_ret (v := .tuple #[.agg #[(.int .i64 2), (.string b), (.int .i64 0)], (.int .i64 ((n : Int) + 1))]) (by simp [results, Tryd.results31, go_sem, r0, r1, r2]) rfl ⟨.inl ⟨_, _, HF.out, by rfl⟩, HB2.out.trans RB.out⟩

end Go.Proofs.YtcpbjcemlkohkaaDoor
