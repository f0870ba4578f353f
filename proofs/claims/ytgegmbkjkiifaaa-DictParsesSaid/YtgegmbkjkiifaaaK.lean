/- The numbers of texts; Join with none. -/
import Derived.Test.YtgegmbkjkiifaaaJ
namespace Go.Proofs.Ytgegmbkjkiifaaa
open Go.RowKit Go.Lib
set_option linter.unusedSimpArgs false
set_option linter.unusedVariables false
theorem info3 : (Try.prog.info? 3).map (fun i => (i.zero, i.size, i.bytes)) = some (some (.int .i64 0), 1, 8) := by kernel_rfl
def NumPost (w : World) (n : Nat) (e : Ending) (w' : World) : Prop := ∃ A c, e = .returned (.slice A n c) ∧ Below w.heap.size w w'
set_option maxRecDepth 100000 in
set_option maxHeartbeats 4000000 in
theorem numbers_any (p : Value) (D : List ByteArray) (A : Option Addr) (n c : Nat) (L : List ByteArray) (w : World) (h : DictP w p D) (hl : D.length ≤ 4611686018427387903) (hr : rising D) (hA : Row w A (texts L)) (hn : n = L.length) (hn2 : n ≤ 65536) :
    Calls Try.prog 46 #[p, .slice A n c] w (NumPost w n) := by
  obtain ⟨i0, hi0, hz0, hz1, hz2⟩ := info_parts info3
  have H := Lib.hid h
  have HR := Lib.hid hr
  have HL := Lib.hid hl
  have HA := Lib.hid hA
  have HN := Lib.hid hn
  clear h hr hl hA hn
  go_enter Try.func46, Try.ntmps46
  go_wp2_with fail
  go_loopw [5, 7, 8, 9, 12] (fun v x j b i wr => ∃ (k : Nat) (xs : List Value), k ≤ n ∧ i = .int .i64 k ∧ Hid (wr.ownsRow w.heap.size 3 1 v k xs) ∧ Hid (Below w.heap.size w wr)) (fun _ _ _ _ i _ => n - (intOf i).toNat)
  case atStart => exact ⟨0, [], Nat.zero_le _, rfl, Lib.hid (World.ownsRow_nil _ _ _ _), Lib.hid (Below.refl _ _)⟩
  case round =>
    obtain ⟨k, xs, hk, rfl, HO, HBW⟩ := hrel
    by_cases hlt : k < n
    · have hkz : k < L.length := by have := HN.out; omega
      have hki : (k : Int) < (n : Int) := by omega
      have hk0 : (0 : Int) ≤ (k : Int) := by omega
      obtain ⟨b, off, hAe, c0⟩ := text_cell (HA.out.keep (Nat.le_refl _) HBW.out) hkz
      obtain ⟨s, hs⟩ : ∃ s, s = L[k] := ⟨_, rfl⟩
      rw [← hs] at c0
      obtain ⟨q, hq⟩ := bool_of (s ∈ D)
      have HQ := Lib.hid hq
      subst hAe
      clear hs hq hlt
      go_wp2_with fail
      refine (find_any p D s _ (H.out.keep HBW.out) HL.out HR.out q HQ.out).mono ?_
      rintro e w2 ⟨rfl, rfl⟩
      obtain ⟨x, hx⟩ : ∃ x : Nat, x = (if q then upto D s else 0) := ⟨_, rfl⟩
      rw [← hx]
      clear hx c0
      go_wp2_with (at_builtin; refine wpList_append_own _ rfl _ _ 47 rfl w.heap.size 3 i0 (.int .i64 0) 1 8 Try.underlying47 hi0 hz0 hz1 hz2 rfl (by decide) _ _ _ rfl (HO.out.alloc _) ⟨wr.heap.size, 0, none⟩ 1 1 [.int .i64 (x : Int)] rfl rfl ?c1 ?c2 ?c3 ?c4 ?c5 ?_)
      case c1 => intro j u hj; match j, hj with | 0, hj => simp at hj; subst hj; simp [Addr.add]
      case c2 => intro u hu; simp at hu; subst hu; rfl
      case c3 => unfold maxLen; omega
      case c4 => omega
      case c5 => have := HBW.out.size; simp; omega
      intro v3 w3 ho3 hg3 _
      have HO3 := Lib.hid ho3
      have HB3 := Lib.hid (show Below w.heap.size w w3 from (HBW.out.alloc HBW.out.size _).trans (grown_own (HO.out.alloc _) hg3 (by have := HBW.out.size; simp; omega)))
      clear ho3 hg3
      go_wp2_with fail
      go_roundw
      case rel => exact ⟨k + 1, xs ++ [.int .i64 (x : Int)], by omega, by go_num, HO3, HB3⟩
      case measure => simp [intOf]; omega
    · have hge : ¬ (k : Int) < (n : Int) := by omega
      obtain rfl : k = n := by omega
      obtain ⟨A9, c9, rfl, _⟩ := own_slice HO.out
      clear hlt
      go_wp2_with fail
      go_ret
      exact ⟨A9, c9, rfl, HBW.out⟩
theorem dictL_id {D : List ByteArray} (h : rising D) : dictL D = D := rising_ext (dictL_rising D) h (dictL_mem D)
def JoinPost (w : World) (D : List ByteArray) (e : Ending) (w' : World) : Prop := ∃ z A a B b, e = .returned (.tuple #[z, .slice A 0 a, .slice B D.length b]) ∧ DictP w' z D ∧ Below w.heap.size w w'
set_option maxRecDepth 100000 in
set_option maxHeartbeats 4000000 in
theorem join_nil (p : Value) (D : List ByteArray) (w : World) (h : DictP w p D) (hl : D.length ≤ 100) (hr : rising D) (hf : ∀ s ∈ D, fitsT s) :
    Calls Try.prog 23 #[.pointer none, p] w (JoinPost w D) := by
  have H := Lib.hid h
  have HR := Lib.hid hr
  have HF := Lib.hid hf
  have HN := Lib.hid (show DictP w (.pointer none) [] from .inl ⟨rfl, rfl⟩)
  obtain ⟨n, hn⟩ : ∃ n, n = D.length := ⟨_, rfl⟩
  have HNN := Lib.hid hn
  have hn2 : n ≤ 100 := by omega
  clear h hr hf hl hn
  go_enter Try.func23, Try.ntmps23
  go_wp2_with fail
  refine (all_any _ [] _ HN.out).mono ?_
  rintro e w1 ⟨A, a, rfl, hra, ha, _, hna, rfl⟩
  have HRA := Lib.hid hra
  have HNA := Lib.hid hna
  have e0 : ([] : List ByteArray).length = 0 := rfl
  rw [e0] at ha ⊢
  clear hra hna e0
  go_wp2_with fail
  refine (all_any p D _ H.out).mono ?_
  rintro e w1 ⟨B, b, rfl, hrb, hb, _, hnb, rfl⟩
  have HRB := Lib.hid hrb
  have HNB := Lib.hid hnb
  rw [← HNN.out] at hb ⊢
  clear hrb hnb
  obtain ⟨W1, hW1⟩ : ∃ W1, W1 = w.alloc (.cells #[.slice A 0 a, .slice B n b] 22) := ⟨_, rfl⟩
  have HW1 := Lib.hid hW1
  have HB1 := Lib.hid (show Below w.heap.size w W1 by rw [hW1]; exact bpush (Below.refl _ _) _)
  have C0 := Lib.hid (show W1.cell? ⟨w.heap.size, 0, none⟩ = some (.slice A 0 a) by rw [hW1]; exact cell_made rfl rfl)
  have C1 := Lib.hid (show W1.cell? ⟨w.heap.size, 1, none⟩ = some (.slice B n b) by rw [hW1]; exact cell_made rfl rfl)
  clear hW1
  go_wp2_with fail
  rw [← HW1.out]
  refine (concat_any _ _ A B 0 a n b [] D _ C0.out C1.out (HRA.out.keep (Nat.le_refl _) HB1.out) (HRB.out.keep (Nat.le_refl _) HB1.out) rfl HNN.out ha hb HNA.out HNB.out (by omega) (by omega)).mono ?_
  rintro e w2 ⟨v, rfl, ho, hb2⟩
  have ho' : w2.ownsRow W1.heap.size 9 1 v n (texts D) := by
    rw [List.nil_append] at ho
    have e : ([] : List ByteArray).length + D.length = n := by simp; exact HNN.out.symm
    rw [e] at ho; exact ho
  obtain ⟨A3, c3, rfl, hr3, hc3, _⟩ := own_slice ho'
  have HR3 := Lib.hid hr3
  have HB2 := Lib.hid (bthen HB1.out hb2)
  clear ho ho' hb2 hr3
  go_wp2_with fail
  refine (new_any A3 n c3 D _ HR3.out HNN.out (by omega) (fun s hs => by have := (HF.out s hs).2; omega)).mono ?_
  rintro e w3 h
  rcases h with ⟨_, z, rfl, hz, hb3⟩ | ⟨h, _⟩
  case inr => exact absurd ⟨HF.out, by rw [dictL_id HR.out]; have := HNN.out; omega⟩ h
  rw [dictL_id HR.out] at hz
  have HZ := Lib.hid hz
  have HB3 := Lib.hid (bthen HB2.out hb3)
  clear hz hb3
  go_wp2_with fail
  refine (all_any _ [] _ (HN.out.keep HB3.out)).mono ?_
  rintro e w4 ⟨A4, a4, rfl, hra, _, _, _, rfl⟩
  have HRA4 := Lib.hid hra
  have e0 : ([] : List ByteArray).length = 0 := rfl
  rw [e0]
  clear hra e0
  go_wp2_with fail
  refine (numbers_any z D A4 0 a4 [] _ HZ.out (by have := HNN.out; omega) HR.out HRA4.out rfl (by omega)).mono ?_
  rintro e w5 ⟨X, cx, rfl, hb5⟩
  have HB5 := Lib.hid (bthen HB3.out hb5)
  have HZ5 := Lib.hid (HZ.out.keep hb5)
  clear hb5
  go_wp2_with fail
  refine (all_any p D _ (H.out.keep HB5.out)).mono ?_
  rintro e w6 ⟨A6, a6, rfl, hra, _, _, _, rfl⟩
  have HRA6 := Lib.hid hra
  rw [← HNN.out]
  clear hra
  go_wp2_with fail
  refine (numbers_any z D A6 n a6 D _ HZ5.out (by have := HNN.out; omega) HR.out HRA6.out HNN.out (by omega)).mono ?_
  rintro e w7 ⟨Y, cy, rfl, hb7⟩
  have HB7 := Lib.hid (bthen HB5.out hb7)
  have HZ7 := Lib.hid (HZ5.out.keep hb7)
  clear hb7
  go_wp2_with fail
  refine bodyPost_ret (v := .tuple #[z, .slice X 0 cx, .slice Y n cy]) (by simp [results, Try.results23, go_sem]) rfl ⟨z, X, cx, Y, cy, by rw [HNN.out], HZ7.out, HB7.out⟩
end Go.Proofs.Ytgegmbkjkiifaaa
