/- The document's dictionary. -/
import Derived.Test.YtgegmbkjkiifaaaM
import Derived.Test.YtgegmbkjkiifaaaGT
namespace Go.Proofs.Ytgegmbkjkiifaaa
open Go.RowKit Go.Lib
set_option linter.unusedSimpArgs false
set_option linter.unusedVariables false
set_option maxRecDepth 100000 in
set_option maxHeartbeats 8000000 in
theorem refupto_any (A : Option Addr) (n c : Nat) (D : List ByteArray) (s : ByteArray) (w : World) (hA : Row w A (texts D)) (hn : n = D.length) (hn2 : n ≤ 4611686018427387903) (hr : rising D) :
    Calls Try.prog 18 #[.slice A n c, .string s] w fun e w' => e = .returned (.int .i64 (upto D s)) ∧ w = w' := by
  have HA := Lib.hid hA
  have HN := Lib.hid hn
  have HR := Lib.hid hr
  obtain ⟨u, hu⟩ : ∃ u, u = upto D s := ⟨_, rfl⟩
  have hun : u ≤ n := by rw [hu, hn]; exact upto_le D s
  have HU := Lib.hid hu
  rw [← hu]
  clear hA hn hr hu
  go_enter Try.func18, Try.ntmps18
  go_wp2_with fail
  go_loop [5] (fun i => ∃ k : Nat, k ≤ u ∧ i = .int .i64 k) (fun i => n - (intOf i).toNat)
  case atStart => exact ⟨0, Nat.zero_le _, rfl⟩
  case round =>
    obtain ⟨k, hk, rfl⟩ := hrel
    by_cases hlt : k < n
    · have hkz : k < D.length := by have := HN.out; omega
      have hki : (k : Int) < (n : Int) := by omega
      have hk0 : (0 : Int) ≤ (k : Int) := by omega
      obtain ⟨b, off, hAe, c0⟩ := text_cell HA.out hkz
      obtain ⟨x, hx⟩ : ∃ x, x = D[k] := ⟨_, rfl⟩
      rw [← hx] at c0
      have HLT := Lib.hid (show ltT x s ↔ k < u by rw [hx, HU.out]; exact upto_spec HR.out s k hkz)
      subst hAe
      clear hx
      by_cases hku : k < u
      · have hb : Op.bytesLess x.toList s.toList = true := by rw [less_bool, decide_eq_true_iff]; exact HLT.out.2 hku
        clear hlt
        go_wp2_with fail
        go_round
        case rel => exact ⟨k + 1, by omega, by go_num⟩
        case measure => simp [intOf]; omega
      · have hb : Op.bytesLess x.toList s.toList = false := by rw [less_bool, decide_eq_false_iff_not]; exact fun h => hku (HLT.out.1 h)
        obtain rfl : k = u := by omega
        clear hlt hku
        go_wp2_with fail
        go_ret
        exact ⟨rfl, rfl⟩
    · have hge : ¬ (k : Int) < (n : Int) := by omega
      have hd : decide ((k : Int) < (n : Int)) = false := by simp; omega
      have hd2 : decide (k < n) = false := by simp; omega
      obtain rfl : k = u := by omega
      clear hlt
      go_wp2_with fail
      go_ret
      exact ⟨rfl, rfl⟩
set_option maxRecDepth 100000 in
set_option maxHeartbeats 8000000 in
theorem reffind_any (A : Option Addr) (n c : Nat) (D : List ByteArray) (s : ByteArray) (w : World) (hA : Row w A (texts D)) (hn : n = D.length) (hn2 : n ≤ 4611686018427387903) (hr : rising D) (q : Bool) (hq : q = true ↔ s ∈ D) :
    Calls Try.prog 14 #[.slice A n c, .string s] w fun e w' => e = .returned (.tuple #[.int .i64 (if q then upto D s else 0 : Nat), .bool q]) ∧ w = w' := by
  have HA := Lib.hid hA
  have HN := Lib.hid hn
  have HR := Lib.hid hr
  have HQ := Lib.hid hq
  obtain ⟨u, hu⟩ : ∃ u, u = upto D s := ⟨_, rfl⟩
  have hun : u ≤ n := by rw [hu, hn]; exact upto_le D s
  have HU := Lib.hid hu
  have HM := Lib.hid (hq.trans (upto_mem hr s))
  rw [← hu]
  clear hA hn hr hu hq
  go_enter Try.func14, Try.ntmps14
  go_wp2_with fail
  refine (refupto_any A n c D s _ HA.out HN.out hn2 HR.out).mono ?_
  rw [← HU.out]
  rintro e w' ⟨rfl, rfl⟩
  by_cases hlt : u < n
  · have hkz : u < D.length := by have := HN.out; omega
    have hki : (u : Int) < (n : Int) := by omega
    have hk0 : (0 : Int) ≤ (u : Int) := by omega
    have hne1 : ((u : Int) == (n : Int)) = false := by rw [beq_eq_false_iff_ne]; omega
    obtain ⟨b, off, hAe, c0⟩ := text_cell HA.out hkz
    obtain ⟨x, hx⟩ : ∃ x, x = D[u] := ⟨_, rfl⟩
    rw [← hx] at c0
    have HX := Lib.hid hx
    subst hAe
    clear hx
    by_cases hxs : x = s
    · subst hxs
      obtain rfl : q = true := HM.out.2 (by rw [← HU.out]; exact ⟨hkz, HX.out.symm⟩)
      clear hlt
      go_wp2_with fail
      go_ret2
      exact ⟨rfl, rfl⟩
    · obtain rfl : q = false := by
        cases q with
        | false => rfl
        | true =>
          have := HM.out.1 rfl
          rw [← HU.out] at this
          obtain ⟨h, e⟩ := this
          exact absurd (HX.out.trans e) hxs
      have hne := str_ne hxs
      clear hlt hxs
      go_wp2_with fail
      go_ret2
      exact ⟨rfl, rfl⟩
  · obtain rfl : u = n := by omega
    obtain rfl : q = false := by
      cases q with
      | false => rfl
      | true =>
        have := HM.out.1 rfl
        rw [← HU.out] at this
        obtain ⟨h, e⟩ := this
        have := HN.out; omega
    clear hlt
    go_wp2_with fail
    go_ret2
    exact ⟨rfl, rfl⟩
set_option maxRecDepth 100000 in
set_option maxHeartbeats 8000000 in
theorem reffits_any (s : ByteArray) (w : World) (r : Bool) (hr : r = true ↔ fitsT s) : Calls Try.prog 30 #[.string s] w fun e w' => e = .returned (.bool r) ∧ w = w' := by
  obtain ⟨z, hz⟩ : ∃ z, s.size = z := ⟨_, rfl⟩
  have h0 : s = ⟨#[]⟩ ↔ z = 0 := by
    rw [← hz]
    constructor
    · intro h; rw [h]; rfl
    · intro h; cases s with | mk d => simp [ByteArray.size] at h; rw [h]
  by_cases h1 : 1 ≤ z
  · have d1 : decide ((1 : Int) ≤ (z : Int)) = true := by simp; omega
    by_cases h2 : z ≤ 24
    · have d2 : decide ((z : Int) ≤ 24) = true := by simp; omega
      obtain rfl : r = true := hr.2 ⟨fun e => by have := h0.1 e; omega, by omega⟩
      clear hr h0 h1 h2
      go_enter Try.func30, Try.ntmps30
      go_wp2_with fail
      go_ret
      exact ⟨rfl, rfl⟩
    · have d2 : decide ((z : Int) ≤ 24) = false := by simp; omega
      obtain rfl : r = false := by
        cases r with
        | false => rfl
        | true => have := (hr.1 rfl).2; omega
      clear hr h0 h1 h2
      go_enter Try.func30, Try.ntmps30
      go_wp2_with fail
      go_ret
      exact ⟨rfl, rfl⟩
  · have d1 : decide ((1 : Int) ≤ (z : Int)) = false := by simp; omega
    have hz0 : z = 0 := by omega
    obtain rfl : r = false := by
      cases r with
      | false => rfl
      | true => exact absurd (h0.2 hz0) (hr.1 rfl).1
    clear hr h0 h1 hz0
    go_enter Try.func30, Try.ntmps30
    go_wp2_with fail
    go_ret
    exact ⟨rfl, rfl⟩
def TextsPost (w : World) (D : List ByteArray) (e : Ending) (w' : World) : Prop := ∃ A c, e = .returned (.slice A D.length c) ∧ Row w' A (texts D) ∧ D.length ≤ c ∧ (A = none → c = 0) ∧ Below w.heap.size w w'
set_option maxRecDepth 100000 in
set_option maxHeartbeats 8000000 in
theorem texts_any (p : Value) (D : List ByteArray) (w : World) (h : DictP w p D) (hl : D.length ≤ 65536) : Calls Try.prog 16 #[p] w (TextsPost w D) := by
  obtain ⟨i0, hi0, hz0, hz1, hz2⟩ := info_parts info9
  have H := Lib.hid h
  obtain ⟨n, hn⟩ : ∃ n, n = D.length := ⟨_, rfl⟩
  have HN := Lib.hid hn
  have hn2 : n ≤ 65536 := by omega
  clear h hn hl
  go_enter Try.func16, Try.ntmps16
  go_wp2_with fail
  go_loopw [3, 4, 5, 6] (fun v i s b wr => ∃ k : Nat, k ≤ n ∧ i = .int .i64 k ∧ Hid (wr.ownsRow w.heap.size 9 1 v k (texts (D.take k))) ∧ Hid (Below w.heap.size w wr)) (fun _ i _ _ _ => n - (intOf i).toNat)
  case atStart => exact ⟨0, Nat.zero_le _, rfl, Lib.hid (World.ownsRow_nil _ _ _ _), Lib.hid (Below.refl _ _)⟩
  case round =>
    obtain ⟨k, hk, rfl, HO, HBW⟩ := hrel
    go_wp2_with fail
    refine (len_any p D _ (H.out.keep HBW.out)).mono ?_
    rw [← HN.out]
    rintro e w1 ⟨rfl, rfl⟩
    by_cases hlt : k < n
    · have hkz : k < D.length := by have := HN.out; omega
      have hki : (k : Int) < (n : Int) := by omega
      have hk0 : (0 : Int) ≤ (k : Int) := by omega
      obtain ⟨x, hx⟩ : ∃ x, x = D[k] := ⟨_, rfl⟩
      have HX := Lib.hid hx
      have HTK := Lib.hid (show D.take (k + 1) = D.take k ++ [x] by rw [hx]; exact take_snoc D k hkz)
      clear hx hlt
      go_wp2_with fail
      refine (dtext_any p D k _ (H.out.keep HBW.out) hkz (by have := HN.out; omega) x HX.out).mono ?_
      rintro e w1 ⟨rfl, rfl⟩
      go_wp2_with (at_builtin; refine wpList_append_own _ rfl _ _ 22 rfl w.heap.size 9 i0 (.string ⟨#[]⟩) 1 16 Try.underlying22 hi0 hz0 hz1 hz2 rfl (by decide) _ _ _ rfl (HO.out.alloc _) ⟨wr.heap.size, 0, none⟩ 1 1 [.string x] rfl rfl ?c1 ?c2 ?c3 ?c4 ?c5 ?_)
      case c1 => intro j u hj; match j, hj with | 0, hj => simp at hj; subst hj; simp [Addr.add]
      case c2 => intro u hu; simp at hu; subst hu; rfl
      case c3 => unfold maxLen; omega
      case c4 => omega
      case c5 => have := HBW.out.size; simp; omega
      intro v3 w3 ho3 hg3 _
      have HO3 := Lib.hid (show w3.ownsRow w.heap.size 9 1 v3 (k + 1) (texts (D.take (k + 1))) by rw [HTK.out, ← texts_append]; exact ho3)
      have HB3 := Lib.hid (show Below w.heap.size w w3 from (HBW.out.alloc HBW.out.size _).trans (grown_own (HO.out.alloc _) hg3 (by have := HBW.out.size; simp; omega)))
      clear ho3 hg3
      go_wp2_with fail
      go_roundw
      case rel => exact ⟨k + 1, by omega, by go_num, HO3, HB3⟩
      case measure => simp [intOf]; omega
    · have hge : ¬ (k : Int) < (n : Int) := by omega
      obtain rfl : k = n := by omega
      obtain ⟨A9, c9, rfl, h1, h2, h3⟩ := own_slice HO.out
      have HE := Lib.hid (show TextsPost w D (.returned (.slice A9 k c9)) wr from ⟨A9, c9, by rw [← HN.out], by rw [List.take_of_length_le (by rw [← HN.out]; exact Nat.le_refl _)] at h1; exact h1, by rw [← HN.out]; exact h2, h3, HBW.out⟩)
      clear hlt h1 h2 h3
      go_wp2_with fail
      go_ret
      exact HE.out
end Go.Proofs.Ytgegmbkjkiifaaa
