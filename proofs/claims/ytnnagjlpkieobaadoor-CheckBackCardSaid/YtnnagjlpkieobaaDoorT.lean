/- The live question. -/
import Derived.Test.YtnnagjlpkieobaaDoorR
import Derived.Test.YtnnagjlpkieobaaDoorK
import Derived.Lib.SlBytesConst
namespace Go.Proofs.YtnnagjlpkieobaaDoor
open Go.RowKit
set_option linter.unusedSimpArgs false
set_option linter.unusedVariables false
theorem own_empty {w : World} {B : Nat} {t : TypeId} {size : Nat} (hB : B ≤ w.heap.size) : (w.alloc (.cells #[] t)).ownsRow B t size (.slice (some ⟨w.heap.size, 0, none⟩) 0 0) 0 [] :=
  ⟨by simp, .inr ⟨w.heap.size, 0, #[], rfl, hB, heap_alloc_new w _, Nat.le_refl _, Nat.zero_le _, by simp, by simp⟩⟩
theorem al_len : (blockL [104, 105]).length = 7 := by decide +kernel
theorem al_sum : sumI [49, 50, 51, 52, 53, 54, 55, 56, 57] = 3808858755 := by decide +kernel
theorem al_str : strOfNums [104, 105] = ⟨#[104, 105]⟩ := by decide +kernel
theorem al_by1 : bytes [104, 105] := by intro x hx; simp at hx; omega
theorem al_by2 : bytes [49, 50, 51, 52, 53, 54, 55, 56, 57] := by intro x hx; simp at hx; omega
theorem al_by3 : bytes [7] := by intro x hx; simp at hx; omega
theorem Row.marked {w : World} {t : TypeId} {xs : List Value} {cs : Array Value} {fr : Nat × Nat} (hx : cs = xs.toArray) : Row (w.alloc (.cells cs t fr)) (some ⟨w.heap.size, 0, none⟩) xs := by
  subst hx; exact .inr ⟨_, _, rfl, fun j u hu => by rw [Nat.zero_add, cell_of_row _ _ j _ t fr (heap_alloc_new w _)]; simpa using hu⟩
set_option maxRecDepth 100000 in
set_option maxHeartbeats 4000000 in
theorem alive_any (w : World) (hT : Tab w) : Calls Tryd.prog 8 #[] w fun e w' => e = .returned (.bool true) ∧ Below w.heap.size w w' := by
  have HT := Lib.hid hT
  clear hT
  obtain ⟨i0, hi0, hz0, hz1, hz2⟩ := info_parts Tryd.info5
  have hcv := Lib.run_convert_bytes_const (P := Tryd.prog) w 22 5 #[.int .u8 104, .int .u8 105] 2 2 Tryd.underlying22 Tryd.underlying5
  go_enter Tryd.func8, Tryd.ntmps8
  go_wp2_with fail
  clear hcv
  refine (block_any (some ⟨w.heap.size, 0, none⟩) 2 2 [104, 105] _ (HT.out.keep (bpush (Below.refl _ w) _)) (Row.marked rfl) rfl (by omega) al_by1 (fun h => by cases h)).mono ?_
  rintro e w1 ⟨A1, c1, rfl, hr1, hc1, hB1, _⟩
  obtain ⟨xs, hxs⟩ : ∃ xs, xs = blockL [104, 105] := ⟨_, rfl⟩
  have hl : xs.length = 7 := by rw [hxs]; exact al_len
  rw [← hxs] at hr1
  rw [al_len] at hc1 ⊢
  have HR1 := Lib.hid hr1
  have HB1 := Lib.hid (bthen (bpush (Below.refl _ w) _) hB1)
  obtain ⟨b1, o1, rfl⟩ := hr1.head (by omega)
  have HXS := Lib.hid hxs
  have HL := Lib.hid hl
  clear hr1 hB1 hxs hl
  have HT1 := Lib.hid (HT.out.keep HB1.out)
  go_wp2_with (at_builtin; refine append_bytes rfl _ _ rfl w1.heap.size (.slice (some ⟨w1.heap.size, 0, none⟩) 0 0) rfl 0 [] (own_empty (Nat.le_refl _)) (some ⟨b1, o1, none⟩) 7 c1 xs rfl (HR1.out.keep (Nat.le_refl _) (bpush (Below.refl _ _) _)) HL.out.symm (fun h => by cases h) (by omega) (by simp) ?_)
  intro v2 w2 hown2 hB2
  have HB2 := Lib.hid (show Below w1.heap.size w1 w2 from (bpush (Below.refl _ w1) _).trans hB2)
  have HOW2 := Lib.hid hown2
  have hsz2 := HB2.out.size
  clear hB2
  go_wp2_with (at_builtin; refine wpList_append_own _ rfl _ _ 22 rfl w1.heap.size 5 i0 (.int .u8 0) 1 1 Tryd.underlying22 hi0 hz0 hz1 hz2 rfl (by decide) _ _ _ rfl (hown2.alloc _) ⟨w2.heap.size, 0, none⟩ 1 1 [.int .u8 7] rfl rfl ?c1 ?c2 ?c3 ?c4 ?c5 ?_)
  case c1 => intro j u hj; match j, hj with | 0, hj => simp at hj; subst hj; simp [Addr.add]
  case c2 => intro u hu; simp at hu; subst hu; rfl
  case c3 => unfold maxLen; omega
  case c4 => omega
  case c5 => simp; omega
  intro v3 w3 hown3 hgr3 _
  have HB3 := Lib.hid (show Below w1.heap.size w1 w3 from (HB2.out.alloc hsz2 _).grown hgr3 (by simp; omega) (fun k hk => (HOW2.out.lt k hk).1))
  have hown3' : w3.ownsRow w1.heap.size 5 1 v3 8 ((xs ++ [7]).map (Value.int .u8)) := by rw [List.map_append]; exact hown3
  obtain ⟨A3, c3, rfl, hr3, hc3, _⟩ := bytes_slice hown3'
  have HR3 := Lib.hid hr3
  have HT3 := Lib.hid (HT1.out.keep HB3.out)
  have HC3 := Lib.hid hc3
  have HR13 := Lib.hid (HR1.out.keep (Nat.le_refl _) HB3.out)
  clear hown3 hgr3 hown3' hr3 hc3 hown2 hsz2
  go_wp2_with fail
  refine (first_good A3 8 c3 [104, 105] [7] _ HT3.out (by have h := HR3.out; rw [HXS.out] at h; exact h) (by rw [List.length_append, al_len]; rfl) HC3.out (by omega) (by simp) al_by1 al_by3).mono ?_
  rw [al_len]
  rintro e w4 ⟨A4, c4, rfl, _, hr4, hB4⟩
  obtain ⟨b4, o4, rfl⟩ := hr4.head (by simp)
  have HR4 := Lib.hid hr4
  have HB4 := Lib.hid (show Below w.heap.size w w4 from HB1.out.trans ((HB3.out.trans (hB4.mono HB3.out.size)).mono HB1.out.size))
  have HT4 := Lib.hid (HT.out.keep HB4.out)
  clear hr4 hB4
  have hcv := Lib.run_convert_bytes_const (P := Tryd.prog) w4 22 5 #[.int .u8 49, .int .u8 50, .int .u8 51, .int .u8 52, .int .u8 53, .int .u8 54, .int .u8 55, .int .u8 56, .int .u8 57] 9 9 Tryd.underlying22 Tryd.underlying5
  have hcs : ∀ o, Sem.run Tryd.prog (convert 22 9 (.slice (some ⟨b4, o4, none⟩) 2 c4)) (w4.alloc o) = .ok (.string ⟨#[104, 105]⟩) (w4.alloc o) := fun o => by
    rw [← al_str]
    exact conv_row (HR4.out.keep (Nat.le_refl _) (bpush (Below.refl _ w4) o)) rfl
  have HCS := Lib.hid hcs
  clear hcs
  go_wp2_with fail
  refine (sum_any (some ⟨w4.heap.size, 0, none⟩) 9 9 [49, 50, 51, 52, 53, 54, 55, 56, 57] _ (HT4.out.keep (bpush (Below.refl _ w4) _)) (Row.marked rfl) rfl (by omega) al_by2).mono ?_
  rintro e w5 ⟨rfl, rfl⟩
  rw [al_sum]
  clear hcv
  have hcs := HCS.out
  go_wp2_with fail
  go_ret
  exact ⟨rfl, bpush HB4.out _⟩
end Go.Proofs.YtnnagjlpkieobaaDoor
