/- The law NibbleReads: its walk. -/
import Derived.Test.YtedldajlioeioaaNM
import Derived.Lib.SmallJoins
namespace Go.Proofs.Ytedldajlioeioaa
open Go.ChangeShapes Go.WideShapes Go.Deep Go.RowKit
set_option linter.unusedSimpArgs false
set_option linter.unusedVariables false
theorem open_arr2 {H : Type} {enc : TypeId × Value → H} {P : Program} {w : World} {base b0 : Nat} {spare : Nat → Bool} {held : Bool} {r : Reach} {k : IntKind} {t e : TypeId} {v : Value} {d : DataW H} {p : List MemPlace} (ht : P.underlying t = some (.array 2 e)) (he : P.underlying e = some (.int k)) (hce : P.cellsOf e = 1) (hC : P.cellsOf t = 2)
    (hv : Value.okWide P w r b0 t v) (h : DataW.Trod enc P w base spare held t v d p) :
    ∃ a b : Int, v = .agg #[.int k a, .int k b] ∧ (Lit.int k a).wf = true ∧ (Lit.int k b).wf = true := by
  simp only [Value.okWide, ht] at hv
  obtain ⟨cs, rfl, hsz, _⟩ := hv
  obtain ⟨c0, c1, rfl⟩ := Go.Joins.array2 (hsz.trans hC)
  obtain ⟨fuel, hf⟩ := h
  obtain ⟨xs, m, _, _, _, hl, hi⟩ := DataW.trod_array ht hf
  match xs, hl with
  | [y0, y1], _ =>
    have h0 := hi 0 (by omega)
    have h1 := hi 1 (by omega)
    rw [hce] at h0 h1
    have f0 : DataW.trod enc P w base spare held m e [c0] = some y0 := by simpa [Value.cells] using h0
    have f1 : DataW.trod enc P w base spare held m e [c1] = some y1 := by simpa [Value.cells] using h1
    obtain ⟨a, ea, _, wa⟩ := DataW.trod_int he (x := y0) f0
    obtain ⟨b, eb, _, wb⟩ := DataW.trod_int he (x := y1) f1
    simp at ea eb
    subst ea eb
    exact ⟨a, b, rfl, wa, wb⟩
theorem repack_iff {bs : List Int} {W m : Nat} (hb : bytes bs) (hl : bs.length = sizeN m W) : packL (unp bs W m) W = bs ↔ numF (bitB bs) (m * W) (8 * bs.length - m * W) = 0 := by
  rcases Nat.eq_zero_or_pos W with h0 | h0
  · subst h0
    have h1 : bs = [] := List.eq_nil_of_length_eq_zero (by rw [hl]; unfold sizeN; omega)
    subst h1
    constructor
    · intro _; simp [numF]
    · intro _
      apply List.eq_nil_of_length_eq_zero
      rw [packL_length]; unfold sizeN; omega
  · unfold packL
    rw [unp_length, hl]
    refine again h0 hb hl (unp_length bs W m) (fun j hj => ?_)
    rw [List.getD_eq_getElem?_getD, List.getElem?_eq_getElem (by rw [unp_length]; exact hj)]
    simp [unp]
theorem unp_succ (bs : List Int) (W k : Nat) : unp bs W (k + 1) = unp bs W k ++ [numF (bitB bs) (k * W) W] := by simp [unp, List.range_succ]
/-- Some numbers, and an error. -/
def NumsE (w : World) (xs : List Nat) (E : Int) (e : Ending) (w' : World) : Prop :=
  ∃ A c, e = .returned (.tuple #[.slice A xs.length c, .int .i64 E]) ∧ Row w' A (u64s xs) ∧ Below w.heap.size w w'
set_option maxRecDepth 100000 in
set_option maxHeartbeats 1000000 in
theorem runpack_bad (A : Option Addr) (n c : Nat) (m W : Int) (w : World) (h : ¬ okSize m W) :
    Calls Try.prog 31 #[.slice A n c, .int .i64 m, .int .i64 W] w (NumsE w [] 1) := by
  go_enter Try.func31, Try.ntmps31
  go_wp2_with fail
  refine (rsize_bad _ _ _ h).mono ?_
  rintro e w1 ⟨rfl, rfl⟩
  clear h
  go_wp2
  go_ret2
  exact ⟨none, 0, rfl, .inl rfl, Below.refl _ _⟩
set_option maxRecDepth 100000 in
set_option maxHeartbeats 2000000 in
theorem runpack_size (A : Option Addr) (n c : Nat) (m W : Nat) (w : World) (hn : n ≤ 1000000) (hm : m ≤ 65536) (hW : W ≤ 64) (hs : n ≠ sizeN m W) :
    Calls Try.prog 31 #[.slice A n c, .int .i64 (m : Nat), .int .i64 (W : Nat)] w (NumsE w [] 71) := by
  obtain ⟨S, hS⟩ : ∃ S, S = sizeN m W := ⟨_, rfl⟩
  rw [← hS] at hs
  have hSi : ((m : Int) * (W : Int) + 7) / 8 = (S : Int) := by rw [hS]; unfold sizeN; rw [Int.natCast_ediv, Int.natCast_add, Int.natCast_mul]; rfl
  have HSI := Lib.hid hSi
  have hm0 : (m : Int) ≤ 65536 := by omega
  have hne : ((n : Int) != (S : Int)) = true := by simp; omega
  have hne2 : (n != S) = true := by simp; omega
  clear hSi hS hs
  go_enter Try.func31, Try.ntmps31
  go_wp2_with fail
  refine (rsize_good _ _ _ (by omega) hm0 (by omega) (by omega)).mono ?_
  rintro e w1 ⟨rfl, rfl⟩
  rw [HSI.out]
  go_wp2
  go_ret2
  exact ⟨none, 0, rfl, .inl rfl, Below.refl _ _⟩
set_option maxRecDepth 100000 in
set_option maxHeartbeats 4000000 in
theorem runpack_any (A : Option Addr) (n c : Nat) (bs : List Int) (m W : Nat) (w : World) (hA : Row w A (bs.map (Value.int .u8))) (hz : n = bs.length) (hb : bytes bs) (hn : n ≤ 1000000) (hm : m ≤ 65536) (hW : W ≤ 64)
    (hs : n = sizeN m W) :
    Calls Try.prog 31 #[.slice A n c, .int .i64 (m : Nat), .int .i64 (W : Nat)] w fun e w' =>
      (numF (bitB bs) (m * W) (8 * n - m * W) = 0 → NumsE w (unp bs W m) 0 e w') ∧ (numF (bitB bs) (m * W) (8 * n - m * W) ≠ 0 → NumsE w [] 71 e w') := by
  have hSi : ((m : Int) * (W : Int) + 7) / 8 = (n : Int) := by rw [hs]; unfold sizeN; rw [Int.natCast_ediv, Int.natCast_add, Int.natCast_mul]; rfl
  have hmW : m * W ≤ 65536 * 64 := Nat.mul_le_mul hm hW
  have h8 : m * W ≤ 8 * n := by rw [hs]; unfold sizeN; omega
  have HZ := Lib.hid hz
  have HB := Lib.hid hb
  have HSI := Lib.hid hSi
  have H8 := Lib.hid h8
  have HA := Lib.hid hA
  have HRP := Lib.hid (repack_iff (W := W) (m := m) hb (by rw [← hz]; exact hs))
  obtain ⟨i0, hi0, hz0, hz1, hz2⟩ := info_parts Try.info36
  clear hz hb hs hSi hmW h8 hA
  have hm0 : (m : Int) ≤ 65536 := by omega
  go_enter Try.func31, Try.ntmps31
  go_wp2_with fail
  refine (rsize_good _ _ _ (by omega) hm0 (by omega) (by omega)).mono ?_
  rintro e w1 ⟨rfl, rfl⟩
  rw [HSI.out]
  go_wp2_with fail
  go_loopw [10, 11] (fun v i wr => ∃ k : Nat, k ≤ m ∧ i = .int .i64 k ∧ wr.ownsRow w.heap.size 36 1 v k (u64s (unp bs W k)) ∧ Below w.heap.size w wr ∧ Hid (k = 0 → v = .slice none 0 0))
    (fun _ i _ => m - (intOf i).toNat)
  case atStart => exact ⟨0, Nat.zero_le _, rfl, World.ownsRow_nil _ _ _ _, Below.refl _ _, Lib.hid (fun _ => rfl)⟩
  case round =>
    obtain ⟨k, hk, rfl, hown, hB, HN⟩ := hrel
    by_cases hlt : k < m
    · have hki : (k : Int) * (W : Int) = ((k * W : Nat) : Int) := (Int.natCast_mul _ _).symm
      have hkm : k * W + W ≤ m * W := by rw [← Nat.succ_mul]; exact Nat.mul_le_mul_right _ hlt
      have hk8 : k * W + W ≤ 8 * n := by have := H8.out; omega
      have hq0 : (0 : Int) ≤ (k : Int) * (W : Int) := by rw [hki]; omega
      have hq1 : (k : Int) * (W : Int) ≤ 8000000 := by rw [hki]; omega
      have HKI := Lib.hid hki
      have HK8 := Lib.hid hk8
      obtain ⟨V, hV⟩ : ∃ V, V = numF (bitB bs) (k * W) W := ⟨_, rfl⟩
      have HV := Lib.hid hV
      have HU := Lib.hid (show u64s (unp bs W (k + 1)) = u64s (unp bs W k) ++ [.int .u64 (V : Nat)] by rw [unp_succ, u64s_snoc, hV])
      have HOWN := Lib.hid hown
      have hbs := hB.size
      clear hki hkm hk8 hV HN hown
      go_wp2_with fail
      rw [HKI.out]
      refine (rnnumber_any A n c bs (k * W) W _ (HA.out.keep (Nat.le_refl _) hB) HZ.out HB.out hn hW HK8.out).mono ?_
      rintro e w4 ⟨rfl, rfl⟩
      rw [← HV.out]
      have hown := HOWN.out
      go_wp2_with (at_builtin; refine wpList_append_own _ rfl _ _ 34 rfl w.heap.size 36 i0 (.int .u64 0) 1 8 Try.underlying34 hi0 hz0 hz1 hz2 rfl (by decide) _ _ _ rfl (hown.alloc _) ⟨wr.heap.size, 0, none⟩ 1 1 [.int .u64 (V : Nat)] rfl rfl ?c1 ?c2 ?c3 ?c4 ?c5 ?_)
      case c1 => intro j u hj; match j, hj with | 0, hj => simp at hj; subst hj; simp [Addr.add]
      case c2 => intro u hu; simp at hu; subst hu; rfl
      case c3 => unfold maxLen; omega
      case c4 => omega
      case c5 => simp; omega
      intro v' w2 hown' hgrow _
      have hB' : Below w.heap.size w w2 := (bpush hB _).grown hgrow (by simp; omega) (fun k hk => (HOWN.out.lt k hk).1)
      rw [← HU.out] at hown'
      clear hgrow hB hown HOWN hq0 hq1
      go_wp2
      go_roundw
      case rel => exact ⟨k + 1, by omega, by go_num, hown', hB', Lib.hid (fun h => by omega)⟩
      case measure => first | (simp [intOf]; done) | (simp [intOf]; omega)
    · obtain rfl : m = k := by omega
      obtain ⟨AU, cu, rfl, hrU⟩ := own_row hown HN.out
      have HRU := Lib.hid hrU
      have HBW := Lib.hid hB
      clear hown HN hrU hB
      go_wp2_with fail
      refine (rpack_good AU m cu (unp bs W m) W _ HRU.out hm (unp_length bs W m).symm (unp_small bs W m hW) hW (unp_width bs W m hW)).mono ?_
      rintro e w5 ⟨A5, c5, rfl, hr5, _, _, hB5⟩
      obtain ⟨xs, hxs⟩ : ∃ x, x = packL (unp bs W m) W := ⟨_, rfl⟩
      rw [← hxs] at hr5 ⊢
      have HXS := Lib.hid hxs
      have HB5 := Lib.hid (bthen HBW.out hB5)
      have HU5 := Lib.hid (HRU.out.keep (Nat.le_refl _) hB5)
      have HBY := Lib.hid (show bytes xs by rw [hxs]; exact packL_bytes _ _)
      have cc := conv_any (c := c5) hr5 rfl
      have cb := conv_any (c := c) (HA.out.keep (Nat.le_refl _) HB5.out) HZ.out
      obtain ⟨K, hK⟩ : ∃ K, K = xs.length := ⟨_, rfl⟩
      rw [← hK] at cc ⊢
      clear hxs hr5 hB5 HBW HRU hK
      by_cases hpad : numF (bitB bs) (m * W) (8 * n - m * W) = 0
      · have hxb : xs = bs := by rw [HXS.out]; exact HRP.out.2 (by rw [← HZ.out]; exact hpad)
        rw [hxb] at cc
        obtain ⟨sa, hsa⟩ : ∃ s, s = strOfNums bs := ⟨_, rfl⟩
        rw [← hsa] at cc cb
        have HP := Lib.hid hpad
        clear hxb hsa hpad
        go_wp2
        go_ret2
        refine ⟨fun _ => ⟨AU, cu, by rw [unp_length]; rfl, HU5.out, HB5.out⟩, fun h => absurd HP.out h⟩
      · have hxb : xs ≠ bs := fun h => hpad (by have := HRP.out.1 (by rw [← HXS.out]; exact h); rw [← HZ.out] at this; exact this)
        have hsne : strOfNums xs ≠ strOfNums bs := fun h => hxb (strOf_inj HBY.out HB.out h)
        obtain ⟨sa, hsa⟩ : ∃ s, s = strOfNums bs := ⟨_, rfl⟩
        obtain ⟨sb, hsb⟩ : ∃ s, s = strOfNums xs := ⟨_, rfl⟩
        rw [← hsa] at cb hsne
        rw [← hsb] at cc hsne
        have hs1 : (sb.toList == sa.toList) = false := by
          simp only [beq_eq_false_iff_ne, ne_eq]
          intro h
          exact hsne (ByteArray.ext (Array.ext' (by simpa [Lib.toList_data] using h)))
        have hs2 : (sb.toList != sa.toList) = true := by simp [bne, hs1]
        have HP := Lib.hid hpad
        clear hxb hsa hsb hsne hpad
        go_wp2
        go_ret2
        exact ⟨fun h => absurd h HP.out, fun _ => ⟨none, 0, rfl, .inl rfl, HB5.out⟩⟩
end Go.Proofs.Ytedldajlioeioaa
