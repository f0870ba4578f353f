/- The document's answer: a number's bytes, a text's. -/
import Derived.Test.YthogafecplhckaaDoorGY
namespace Go.Proofs.YthogafecplhckaaDoor
open Go.RowKit
set_option linter.unusedSimpArgs false
theorem digZ_len (u : Nat) : ∀ r, (digZ r u).length = r := by
  intro r
  induction r with
  | zero => rfl
  | succ r ih => rw [digZ, List.length_cons, ih]
set_option maxRecDepth 100000 in
set_option maxHeartbeats 1000000 in
theorem refint_any (v : Int) (w : World) (v1 : -9223372036854775808 ≤ v) (v2 : v ≤ 9223372036854775807) :
    Calls Tryd.prog 63 #[.int .i64 v] w (MadeB w (encV v)) := by
  obtain ⟨U, hU⟩ : ∃ u : Nat, foldZ v = u := ⟨(foldZ v).toNat, by have := fold_bd v1 v2; omega⟩
  have hUb : U < 2 ^ 64 := by have := fold_bd v1 v2; omega
  have henc : encV v = encI U := by unfold encV; rw [hU, Int.toNat_natCast]
  have HU := Lib.hid hU
  have HEN := Lib.hid henc
  clear hU henc
  obtain ⟨i0, hi0, hz0, hz1, hz2⟩ := info_parts Tryd.info5
  go_enter Tryd.func63, Tryd.ntmps63
  go_wp2_with fail
  refine (rfold_any v _ v1 v2).mono ?_
  rintro e w1 ⟨rfl, rfl⟩
  rw [HU.out]
  have hr1 : (U : Int) % 128 ≤ 127 := by omega
  have hr0 : (0 : Int) ≤ (U : Int) % 128 := by omega
  go_wp2_with fail
  have hini : MadeB w (digZ 1 U) (.returned (.slice (some ⟨w.heap.size, 0, none⟩) 1 1)) (w.alloc (.cells #[.int .u8 ((U : Int) % 128)] 5)) := by
    rw [dig_head_last]
    exact ⟨_, _, rfl, Nat.le_refl _, World.ownsRow_lit w #[.int .u8 ((U : Int) % 128)] 1 (Nat.le_refl _) (by decide) rfl, bpush (Below.refl _ _) _⟩
  have HI := Lib.hid hini
  clear hini
  go_loopw [3, 4] (fun u o wr => ∃ r x : Nat, r ≤ 9 ∧ u = .int .u64 (x : Int) ∧ Hid (x = U / 128 ^ r) ∧ Hid (0 < r → 0 < x) ∧ MadeB w (digZ (r + 1) U) (.returned o) wr)
    (fun u _ _ => (intOf u).toNat)
  case atStart => exact ⟨0, U, by omega, rfl, (by simp : U = U / 128 ^ 0), (fun h => absurd h (by omega)), HI.out⟩
  case round =>
    clear HI
    obtain ⟨r, x, hr9, rfl, HX, HX0, hmade⟩ := hrel
    have hxb : x < 2 ^ 64 := by rw [HX.out]; exact Nat.lt_of_le_of_lt (Nat.div_le_self _ _) hUb
    obtain ⟨g, cap, hv, hcap, hown, hB⟩ := hmade
    injection hv with hv
    subst hv
    obtain ⟨L, hL⟩ : ∃ L, L = (digZ (r + 1) U).length := ⟨_, rfl⟩
    have hLr : L = r + 1 := by rw [hL]; exact digZ_len _ _
    have hL1 : 0 < L := by omega
    have hL2 : L ≤ 10 := by omega
    have HLR := Lib.hid hLr
    clear hLr
    rw [← hL] at hcap hown ⊢
    obtain ⟨_, _, hv2, _, hrow⟩ := Row.of_own hown (by omega)
    cases hv2
    by_cases hx : 128 ≤ x
    · have hx2 : (128 : Int) ≤ (x : Int) := by omega
      have hr8 : r ≤ 8 := by
        rcases Nat.lt_or_ge 8 r with h | h
        · have : r = 9 := by omega
          subst this
          have h9 : (128 : Nat) ^ 9 = 9223372036854775808 := by decide
          have := HX.out
          rw [h9] at this
          omega
        · exact h
      obtain ⟨y, hy⟩ : ∃ y, y = x / 128 := ⟨_, rfl⟩
      have hyi : (x : Int) / 128 = (y : Int) := by omega
      have hy0 : 0 < y := by omega
      have hyx : y < x := by omega
      have hyU : y = U / 128 ^ (r + 1) := by rw [hy, HX.out, Nat.div_div_eq_div_mul, Nat.pow_succ]
      have hdig : (128 + (y : Int) % 128) = ((U / 128 ^ (r + 1) % 128 + 128 : Nat) : Int) := by rw [← hyU]; omega
      have HY := Lib.hid hyU
      have HD := Lib.hid hdig
      have HLL := Lib.hid hL
      have hB2 : Below w.heap.size w (wr.alloc (.cells #[.int .u8 (128 + (y : Int) % 128)] 5)) := bpush hB _
      have hown2 : (wr.alloc (.cells #[.int .u8 (128 + (y : Int) % 128)] 5)).ownsRow w.heap.size 5 1 (.slice (some ⟨wr.heap.size, 0, none⟩) 1 1) 1 [.int .u8 (128 + (y : Int) % 128)] :=
        World.ownsRow_lit wr #[.int .u8 (128 + (y : Int) % 128)] 1 hB.size (by decide) rfl
      have hrow2 := hrow.keep (Nat.le_refl _) (bpush (Below.refl _ _) (.cells #[.int .u8 (128 + (y : Int) % 128)] 5))
      have hbs := hB.size
      clear hyU hdig hL hown hy hrow hB
      go_wp2_with (at_builtin; (try rw [hyi]); refine wpList_append_own _ rfl _ _ 25 rfl w.heap.size 5 i0 (.int .u8 0) 1 1 Tryd.underlying25 hi0 hz0 hz1 hz2 rfl (by decide) (.slice (some ⟨wr.heap.size, 0, none⟩) 1 1) 1 [.int .u8 (128 + (y : Int) % 128)] rfl hown2 ⟨g, 0, none⟩ L cap ((digZ (r + 1) U).map (Value.int .u8)) rfl ?h1 ?h2 ?h3 ?h4 ?h5 ?h6 ?_)
      case h1 => have := HLL.out; simp; omega
      case h2 => exact hrow2.adds _ rfl
      case h3 => intro u hu; simp at hu; obtain ⟨x, _, rfl⟩ := hu; rfl
      case h4 => unfold maxLen; omega
      case h5 => omega
      case h6 => exact hB2.size
      intro v' w2 hown3 hgrow _
      have hB3 : Below w.heap.size w w2 := hB2.grown hgrow hB2.size (by intro k hk; simp [Value.ownBlock] at hk; omega)
      have hm : MadeB w (digZ (r + 1 + 1) U) (.returned v') w2 := MadeB.of hB3 (by rw [dig_head_more _ _ (by omega), ← HD.out]; exact hown3) (by omega)
      have HM := Lib.hid hm
      clear hm hB3 hown3 hgrow hB2 hown2 hrow2
      go_wp2_with fail
      exact ⟨⟨r + 1, y, by omega, rfl, HY, Lib.hid (fun _ => hy0), HM.out⟩, by simp [intOf]; omega⟩
    · have hx2 : ¬ (128 : Int) ≤ (x : Int) := by omega
      have henc : encV v = digZ (r + 1) U := by
        rw [HEN.out, enc_dig]
        congr 1
        have h1 := HX.out
        have h0 := HX0.out
        refine groups_eq ?_ (by omega) ?_ hUb
        · have h2 : U / 128 ^ r < 128 := by omega
          have := (Nat.div_lt_iff_lt_mul (Nat.pow_pos (by omega : 0 < 128))).1 h2
          rw [Nat.pow_succ, Nat.mul_comm]; exact this
        · rcases Nat.eq_zero_or_pos r with h | h
          · left; omega
          · right
            have h3 := h0 h
            rw [Nat.add_sub_cancel]
            rw [h1] at h3
            exact (Nat.div_pos_iff.1 h3).2
      have HM := Lib.hid (show MadeB w (encV v) (.returned (.slice (some ⟨g, 0, none⟩) L cap)) wr by rw [henc]; exact ⟨g, cap, by rw [hL], by rw [← hL]; exact hcap, by rw [← hL]; exact hown, hB⟩)
      clear hown hB hrow henc hL
      go_wp2_with fail
      go_ret
      exact HM.out
set_option maxRecDepth 100000 in
set_option maxHeartbeats 1000000 in
theorem reftext_any (s : ByteArray) (w : World) (hs : s.size ≤ 1000000) :
    Calls Tryd.prog 81 #[.string s] w (MadeB w (encV s.size ++ sB s)) := by
  obtain ⟨i0, hi0, hz0, hz1, hz2⟩ := info_parts Tryd.info5
  go_enter Tryd.func81, Tryd.ntmps81
  go_wp2_with fail
  refine (refint_any _ _ (by omega) (by omega)).mono ?_
  rintro e w1 ⟨g, cap, rfl, hcap, hown, hB⟩
  obtain ⟨m, hm⟩ : ∃ m, m = (encV s.size).length := ⟨_, rfl⟩
  have hm2 : m ≤ 10 := by
    rw [hm, encV, encI_length]; have := groups_bd (foldZ s.size).toNat; omega
  have hm1 : 1 ≤ m := by
    rw [hm, encV, encI_length]; have := groups_bd (foldZ s.size).toNat; omega
  rw [← hm] at hcap hown ⊢
  clear hm
  go_wp2_with (at_builtin; refine Lib.wpList_append_own_string _ rfl _ _ 25 9 rfl w.heap.size 5 i0 Tryd.underlying25 Tryd.underlying9 hi0 hz0 hz1 hz2 _ _ _ rfl hown s rfl ?h1 ?h2 ?h3 ?_)
  case h1 => unfold maxLen; omega
  case h2 => omega
  case h3 => exact hB.size
  intro v' w2 hown' hgrow _
  have hB' : Below w.heap.size w w2 := hB.grown hgrow hB.size (fun k hk => (hown.lt k hk).1)
  have hown2 : w2.ownsRow w.heap.size 5 1 v' (m + s.size) ((encV s.size ++ sB s).map (Value.int .u8)) := by simpa [strCells_sB] using hown'
  have HP := Lib.hid (MadeB.of hB' hown2 (show 0 < m + s.size by omega))
  clear hown hown' hown2 hgrow hB hB'
  go_wp2
  go_ret
  exact HP.out
end Go.Proofs.YthogafecplhckaaDoor
