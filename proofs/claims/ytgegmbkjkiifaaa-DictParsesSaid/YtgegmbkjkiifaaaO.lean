/- The document's New. -/
import Derived.Test.YtgegmbkjkiifaaaN
namespace Go.Proofs.Ytgegmbkjkiifaaa
open Go.RowKit Go.Lib
set_option linter.unusedSimpArgs false
set_option linter.unusedVariables false
theorem texts_front {w : World} {A : Option Addr} {L : List ByteArray} (h : Row w A (texts L)) (k : Nat) : Row w A (texts (L.take k)) := by
  rcases h with h | ⟨b, off, rfl, hc⟩
  · left
    have : L = [] := List.map_eq_nil_iff.1 h
    subst this; simp [texts]
  · refine .inr ⟨b, off, rfl, fun j u hu => hc j u ?_⟩
    unfold texts at hu ⊢
    rw [List.map_take] at hu
    rw [List.getElem?_take] at hu
    split at hu
    · exact hu
    · cases hu
theorem texts_drop {w : World} {b off : Nat} {L : List ByteArray} (h : Row w (some ⟨b, off, none⟩) (texts L)) (k : Nat) : Row w (some ⟨b, off + k, none⟩) (texts (L.drop k)) := by
  rcases h with h | ⟨b', off', he, hc⟩
  · have : L = [] := List.map_eq_nil_iff.1 h
    subst this; exact .inl (by simp [texts])
  · cases he
    refine .inr ⟨b, off + k, rfl, fun j u hu => ?_⟩
    rw [Nat.add_assoc]
    refine hc (k + j) u ?_
    unfold texts at hu ⊢
    rw [List.map_drop, List.getElem?_drop] at hu
    exact hu
theorem ins_split {x : ByteArray} : ∀ {D : List ByteArray}, rising D → x ∉ D → ins x D = D.take (upto D x) ++ [x] ++ D.drop (upto D x) := by
  intro D
  induction D with
  | nil => intro _ _; rfl
  | cons a D ih =>
    intro hr hx
    obtain ⟨d1, d2⟩ := List.pairwise_cons.1 hr
    unfold ins upto
    split
    · rename_i h
      rw [if_neg (lt_asy h)]; rfl
    · rename_i h
      have hax : ltT a x := by
        rcases lt_tri a x with k | k | k
        · exact k
        · exact absurd (k ▸ List.mem_cons_self ..) hx
        · exact absurd k h
      rw [if_pos hax, ih d2 (fun k => hx (List.mem_cons_of_mem _ k))]
      rfl
def RefNewPost (w : World) (L : List ByteArray) (e : Ending) (w' : World) : Prop :=
  ((∀ s ∈ L, fitsT s) ∧ ∃ A c, e = .returned (.tuple #[.slice A (dictL L).length c, .int .i64 0]) ∧ Row w' A (texts (dictL L)) ∧ (dictL L).length ≤ c ∧ (A = none → c = 0) ∧ Below w.heap.size w w') ∨
  (¬ (∀ s ∈ L, fitsT s) ∧ e = .returned (.tuple #[.slice none 0 0, .int .i64 61]) ∧ Below w.heap.size w w')
set_option maxRecDepth 100000 in
set_option maxHeartbeats 60000000 in
theorem refnew_any (A0 : Option Addr) (n c0' : Nat) (L : List ByteArray) (w : World) (hA : Row w A0 (texts L)) (hn : n = L.length) (hn2 : n ≤ 100) :
    Calls Try.prog 11 #[.slice A0 n c0'] w (RefNewPost w L) := by
  obtain ⟨i0, hi0, hz0, hz1, hz2⟩ := info_parts info9
  have HA := Lib.hid hA
  have HN := Lib.hid hn
  clear hA hn
  go_enter Try.func11, Try.ntmps11
  go_wp2_with fail
  go_loopw [4, 5, 6, 7, 8] (fun v i a b d wr => ∃ (k m c : Nat) (A : Option Addr) (D : List ByteArray), k ≤ n ∧ m ≤ k ∧ i = .int .i64 k ∧ v = .slice A m c ∧ Hid (D = dictL (L.take k)) ∧ Hid (m = D.length) ∧ m ≤ c ∧ Hid (A = none → c = 0) ∧ Hid (A = none ∨ ∃ g, A = some ⟨g, 0, none⟩) ∧ Hid (Row wr A (texts D)) ∧ Hid (∀ s ∈ L.take k, fitsT s) ∧ Hid (Below w.heap.size w wr)) (fun _ i _ _ _ _ => n - (intOf i).toNat)
  case atStart => exact ⟨0, 0, 0, none, [], Nat.zero_le _, Nat.le_refl _, rfl, rfl, Lib.hid (by rw [List.take_zero]; exact (List.eq_nil_of_length_eq_zero (by have := dictL_len []; simpa using this)).symm), Lib.hid rfl, Nat.le_refl _, Lib.hid (fun _ => rfl), Lib.hid (.inl rfl), Lib.hid (.inl rfl), Lib.hid (by simp), Lib.hid (Below.refl _ _)⟩
  case round =>
    obtain ⟨k, m, c, A, D, hk, hmk, rfl, rfl, HD, HM, hmc, Ha, HAF, HRW, HFT, HBW⟩ := hrel
    by_cases hlt : k < n
    · have hkz : k < L.length := by have := HN.out; omega
      have hki : (k : Int) < (n : Int) := by omega
      have hk0 : (0 : Int) ≤ (k : Int) := by omega
      obtain ⟨b, off, hAe, c0⟩ := text_cell (HA.out.keep (Nat.le_refl _) HBW.out) hkz
      obtain ⟨x, hx⟩ : ∃ x, x = L[k] := ⟨_, rfl⟩
      rw [← hx] at c0
      have HX := Lib.hid hx
      have HTK := Lib.hid (show L.take (k + 1) = L.take k ++ [x] by rw [hx]; exact take_snoc L k hkz)
      have HRS := Lib.hid (show rising D by rw [HD.out]; exact dictL_rising _)
      obtain ⟨r, hr⟩ := bool_of (fitsT x)
      have HR := Lib.hid hr
      subst hAe
      clear hx hr
      go_wp2_with fail
      refine (reffits_any x _ r HR.out).mono ?_
      rintro e w' ⟨rfl, rfl⟩
      cases r with
      | false =>
        have HNO := Lib.hid (show ¬ ∀ s ∈ L, fitsT s from fun h => by have := HR.out.2 (h x (by rw [HX.out]; exact List.getElem_mem _)); cases this)
        clear hlt
        go_wp2_with fail
        go_ret2
        exact .inr ⟨HNO.out, rfl, HBW.out⟩
      | true =>
        have HFT2 := Lib.hid (show ∀ s ∈ L.take (k + 1), fitsT s from fun s hs => by
          rw [HTK.out] at hs
          rcases List.mem_append.1 hs with h | h
          · exact HFT.out s h
          · rw [List.mem_singleton.1 h]; exact HR.out.1 rfl)
        obtain ⟨u, hu⟩ : ∃ u, u = upto D x := ⟨_, rfl⟩
        have HU := Lib.hid hu
        have hum : u ≤ m := by rw [hu, HM.out]; exact upto_le D x
        have HMEM := Lib.hid (upto_mem HRS.out x)
        clear hu
        go_wp2_with fail
        refine (refupto_any A m c D x _ HRW.out HM.out (by omega) HRS.out).mono ?_
        rw [← HU.out]
        rintro e w' ⟨rfl, rfl⟩
        have hu0 : (0 : Int) ≤ (u : Int) := by omega
        have huc : (u : Int) ≤ (c : Int) := by omega
        by_cases hul : u < m
        · have huz : u < D.length := by have := HM.out; omega
          have huli : (u : Int) < (m : Int) := by omega
          have hul2 : decide (u < m) = true := by simp; omega
          obtain ⟨b2, o2, he, c1⟩ := text_cell HRW.out huz
          obtain ⟨y, hy⟩ : ∃ y, y = D[u] := ⟨_, rfl⟩
          rw [← hy] at c1
          have HY := Lib.hid hy
          subst he
          clear hy
          by_cases hyx : y = x
          · have HMX := Lib.hid (show x ∈ L.take k by
              rw [← dictL_mem, ← HD.out]
              exact HMEM.out.2 (by rw [← HU.out]; exact ⟨huz, by rw [← HY.out]; exact hyx⟩))
            subst hyx
            clear hlt
            go_wp2_with fail
            go_quiet (fail)
            go_wp2_with fail
            go_roundw
            case rel => exact ⟨k + 1, m, c, _, D, by omega, by omega, by go_num, rfl, Lib.hid (by rw [HTK.out, dictL_snoc, if_pos HMX.out]; exact HD.out), HM, hmc, Ha, HAF, Lib.hid (row_dr HRW.out _), HFT2, Lib.hid (below_drewN HBW.out _)⟩
            case measure => simp [intOf]; omega
          · have HNI := Lib.hid (show x ∉ L.take k from fun h => by
              have h1 : x ∈ D := by rw [HD.out, dictL_mem]; exact h
              have h2 := HMEM.out.1 h1
              rw [← HU.out] at h2
              obtain ⟨_, e⟩ := h2
              exact hyx (HY.out.trans e))
            have HINS := Lib.hid (show ins x D = D.take u ++ [x] ++ D.drop u by
              rw [HU.out]; exact ins_split HRS.out (by rw [HD.out, dictL_mem]; exact HNI.out))
            obtain ⟨g, hg⟩ : ∃ g, b2 = g ∧ o2 = 0 := by
              rcases HAF.out with h | ⟨g, h⟩
              · cases h
              · cases h; exact ⟨_, rfl, rfl⟩
            obtain ⟨rfl, rfl⟩ := hg
            rw [Nat.zero_add] at c1
            have hne := str_ne hyx
            have hcu : ¬ c = u := by omega
            have hc00 : ¬ c = 0 := by omega
            have ht1 : ((u : Int)).toNat = u := by omega
            clear hlt hul hyx HMEM
            go_wp2_with fail
            go_quiet (fail)
            go_wp2_with (at_builtin; refine wpList_append_texts rfl _ _ rfl wr.heap.size _ 0 [] rfl (some ⟨b2, 0, none⟩) u c (D.take u) rfl ?ownx11 ?rowx11 ?lenx11 ?lex11 ?nilx11 ?q1x11 ?q2x11 ?_)
            case ownx11 => first | exact own_empty (Nat.le_refl _) | exact own_dr (own_empty (Nat.le_refl _)) _
            case rowx11 => first | exact (texts_front HRW.out u).keep (Nat.le_refl _) (bpush (Below.refl _ _) _) | exact (texts_front HRW.out u).keep (Nat.le_refl _) (below_drewN (bpush (Below.refl _ _) _) _)
            case lenx11 => rw [List.length_take]; have := HM.out; omega
            case lex11 => omega
            try case nilx11 => first | (intro h; cases h; done) | (intro h; exact Ha.out h) | (have := Ha.out (by simp); omega)
            case q1x11 => omega
            case q2x11 => simp
            intro v1 w1 ho1 hg1 _
            have HO1 := Lib.hid (show w1.ownsRow wr.heap.size 9 1 v1 u (texts (D.take u)) by simpa using ho1)
            have HB1 := Lib.hid (show Below wr.heap.size wr w1 by first | exact (bpush (Below.refl _ _) _).trans (grown_own (own_empty (Nat.le_refl _)) hg1 (by simp)) | exact (below_drewN (bpush (Below.refl _ _) _) _).trans (grown_own (own_dr (own_empty (Nat.le_refl _)) _) hg1 (by simp)))
            have hsz1 : wr.heap.size ≤ w1.heap.size := HB1.out.size
            have k1 := cell_on HB1.out c0
            clear ho1 hg1
            go_wp2_with (at_builtin; refine wpList_append_own _ rfl _ _ 22 rfl wr.heap.size 9 i0 (.string ⟨#[]⟩) 1 16 Try.underlying22 hi0 hz0 hz1 hz2 rfl (by decide) _ _ _ rfl (HO1.out.alloc _) ⟨w1.heap.size, 0, none⟩ 1 1 [.string x] rfl rfl ?c1x12 ?c2x12 ?c3x12 ?c4x12 ?c5x12 ?_)
            case c1x12 => intro j u hj; match j, hj with | 0, hj => simp at hj; subst hj; simp [Addr.add]
            case c2x12 => intro u hu; simp at hu; subst hu; rfl
            case c3x12 => unfold maxLen; omega
            case c4x12 => omega
            case c5x12 => simp; exact Nat.le_succ_of_le hsz1
            intro v2 w2 ho2 hg2 _
            have HO2 := Lib.hid (show w2.ownsRow wr.heap.size 9 1 v2 (u + 1) (texts (D.take u ++ [x])) by rw [← texts_append]; exact ho2)
            have HB2 := Lib.hid (show Below wr.heap.size wr w2 from (HB1.out.alloc hsz1 _).trans (grown_own (HO1.out.alloc _) hg2 (by simp; exact Nat.le_succ_of_le hsz1)))
            have hsz2 : wr.heap.size ≤ w2.heap.size := HB2.out.size
            clear ho2 hg2
            go_wp2_with (at_builtin; refine wpList_append_texts rfl _ _ rfl wr.heap.size _ _ _ rfl (some ⟨b2, u, none⟩) (m - u) (c - u) (D.drop u) rfl HO2.out ?rowx13 ?lenx13 ?lex13 ?nilx13 ?q1x13 ?q2x13 ?_)
            case rowx13 => exact (by have := texts_drop HRW.out u; rwa [Nat.zero_add] at this : Row wr _ _).keep (Nat.le_refl _) HB2.out
            case lenx13 => rw [List.length_drop]; have := HM.out; omega
            case lex13 => omega
            try case nilx13 => first | (intro h; cases h; done) | (intro h; have := Ha.out h; omega) | (have := Ha.out (by simp); omega)
            case q1x13 => omega
            case q2x13 => exact hsz2
            intro v3 w3 ho3 hg3 _
            have hm1 : u + 1 + (m - u) = m + 1 := by omega
            have HO3 := Lib.hid (show w3.ownsRow wr.heap.size 9 1 v3 (m + 1) (texts (ins x D)) by rw [texts_append] at ho3; rw [HINS.out, ← hm1]; exact ho3)
            have HB3 := Lib.hid (show Below w.heap.size w w3 from HBW.out.trans ((HB2.out.trans (grown_own HO2.out hg3 hsz2)).mono HBW.out.size))
            obtain ⟨g3, c3, rfl, hc3, hr3⟩ := Row.of_own HO3.out (by omega)
            have HR3 := Lib.hid hr3
            clear ho3 hg3 hm1 k1 hr3
            go_wp2_with fail
            go_roundw
            case rel => exact ⟨k + 1, m + 1, c3, some ⟨g3, 0, none⟩, ins x D, by omega, by omega, by go_num, rfl, Lib.hid (by rw [HTK.out, dictL_snoc, if_neg HNI.out, ← HD.out]), Lib.hid (by have := HO3.out.1; simp [texts] at this; exact this.symm), hc3, Lib.hid (fun h => by cases h), Lib.hid (.inr ⟨g3, rfl⟩), HR3, HFT2, HB3⟩
            case measure => simp [intOf]; omega

        · obtain ⟨e, he⟩ : ∃ e, e = u := ⟨_, rfl⟩
          have hum2 : m = u := by omega
          have HNI := Lib.hid (show x ∉ L.take k from fun h => by
            have h1 : x ∈ D := by rw [HD.out, dictL_mem]; exact h
            have h2 := HMEM.out.1 h1
            rw [← HU.out] at h2
            obtain ⟨h3, _⟩ := h2
            have := HM.out; omega)
          have HINS := Lib.hid (show ins x D = D.take u ++ [x] ++ D.drop u by
            rw [HU.out]; exact ins_split HRS.out (by rw [HD.out, dictL_mem]; exact HNI.out))
          have hd1 : decide ((u : Int) < (m : Int)) = false := by simp; omega
          have hd2 : decide (u < m) = false := by simp; omega
          have hd3 : ¬ (u : Int) < (m : Int) := by omega
          have hul3 : (u : Int) ≤ (m : Int) := by omega
          clear he e hum2 hul HMEM hlt
          rcases HAF.out with rfl | ⟨g, rfl⟩
          · have hc0 : c = 0 := Ha.out rfl
            have HDN := Lib.hid (show Row wr none (texts (D.drop u)) from .inl (by
              have h1 : D = [] := List.eq_nil_of_length_eq_zero (by have := HM.out; omega)
              rw [h1]; simp [texts]))
            clear hc0
            go_wp2_with fail
            go_quiet (fail)
            go_wp2_with (at_builtin; refine wpList_append_texts rfl _ _ rfl wr.heap.size _ 0 [] rfl none u c (D.take u) rfl ?ownx21 ?rowx21 ?lenx21 ?lex21 ?nilx21 ?q1x21 ?q2x21 ?_)
            case ownx21 => first | exact own_empty (Nat.le_refl _) | exact own_dr (own_empty (Nat.le_refl _)) _
            case rowx21 => first | exact (texts_front HRW.out u).keep (Nat.le_refl _) (bpush (Below.refl _ _) _) | exact (texts_front HRW.out u).keep (Nat.le_refl _) (below_drewN (bpush (Below.refl _ _) _) _)
            case lenx21 => rw [List.length_take]; have := HM.out; omega
            case lex21 => omega
            try case nilx21 => first | (intro h; cases h; done) | (intro h; exact Ha.out h) | (have := Ha.out (by simp); omega)
            case q1x21 => omega
            case q2x21 => simp
            intro v1 w1 ho1 hg1 _
            have HO1 := Lib.hid (show w1.ownsRow wr.heap.size 9 1 v1 u (texts (D.take u)) by simpa using ho1)
            have HB1 := Lib.hid (show Below wr.heap.size wr w1 by first | exact (bpush (Below.refl _ _) _).trans (grown_own (own_empty (Nat.le_refl _)) hg1 (by simp)) | exact (below_drewN (bpush (Below.refl _ _) _) _).trans (grown_own (own_dr (own_empty (Nat.le_refl _)) _) hg1 (by simp)))
            have hsz1 : wr.heap.size ≤ w1.heap.size := HB1.out.size
            have k1 := cell_on HB1.out c0
            clear ho1 hg1
            go_wp2_with (at_builtin; refine wpList_append_own _ rfl _ _ 22 rfl wr.heap.size 9 i0 (.string ⟨#[]⟩) 1 16 Try.underlying22 hi0 hz0 hz1 hz2 rfl (by decide) _ _ _ rfl (HO1.out.alloc _) ⟨w1.heap.size, 0, none⟩ 1 1 [.string x] rfl rfl ?c1x22 ?c2x22 ?c3x22 ?c4x22 ?c5x22 ?_)
            case c1x22 => intro j u hj; match j, hj with | 0, hj => simp at hj; subst hj; simp [Addr.add]
            case c2x22 => intro u hu; simp at hu; subst hu; rfl
            case c3x22 => unfold maxLen; omega
            case c4x22 => omega
            case c5x22 => simp; exact Nat.le_succ_of_le hsz1
            intro v2 w2 ho2 hg2 _
            have HO2 := Lib.hid (show w2.ownsRow wr.heap.size 9 1 v2 (u + 1) (texts (D.take u ++ [x])) by rw [← texts_append]; exact ho2)
            have HB2 := Lib.hid (show Below wr.heap.size wr w2 from (HB1.out.alloc hsz1 _).trans (grown_own (HO1.out.alloc _) hg2 (by simp; exact Nat.le_succ_of_le hsz1)))
            have hsz2 : wr.heap.size ≤ w2.heap.size := HB2.out.size
            clear ho2 hg2
            go_wp2_with (at_builtin; refine wpList_append_texts rfl _ _ rfl wr.heap.size _ _ _ rfl none (m - u) (c - u) (D.drop u) rfl HO2.out ?rowx23 ?lenx23 ?lex23 ?nilx23 ?q1x23 ?q2x23 ?_)
            case rowx23 => exact (HDN.out : Row wr _ _).keep (Nat.le_refl _) HB2.out
            case lenx23 => rw [List.length_drop]; have := HM.out; omega
            case lex23 => omega
            try case nilx23 => first | (intro h; cases h; done) | (intro h; have := Ha.out h; omega) | (have := Ha.out (by simp); omega)
            case q1x23 => omega
            case q2x23 => exact hsz2
            intro v3 w3 ho3 hg3 _
            have hm1 : u + 1 + (m - u) = m + 1 := by omega
            have HO3 := Lib.hid (show w3.ownsRow wr.heap.size 9 1 v3 (m + 1) (texts (ins x D)) by rw [texts_append] at ho3; rw [HINS.out, ← hm1]; exact ho3)
            have HB3 := Lib.hid (show Below w.heap.size w w3 from HBW.out.trans ((HB2.out.trans (grown_own HO2.out hg3 hsz2)).mono HBW.out.size))
            obtain ⟨g3, c3, rfl, hc3, hr3⟩ := Row.of_own HO3.out (by omega)
            have HR3 := Lib.hid hr3
            clear ho3 hg3 hm1 k1 hr3
            go_wp2_with fail
            go_roundw
            case rel => exact ⟨k + 1, m + 1, c3, some ⟨g3, 0, none⟩, ins x D, by omega, by omega, by go_num, rfl, Lib.hid (by rw [HTK.out, dictL_snoc, if_neg HNI.out, ← HD.out]), Lib.hid (by have := HO3.out.1; simp [texts] at this; exact this.symm), hc3, Lib.hid (fun h => by cases h), Lib.hid (.inr ⟨g3, rfl⟩), HR3, HFT2, HB3⟩
            case measure => simp [intOf]; omega

          · by_cases hcu : c = u
            · obtain rfl : c = u := hcu
              obtain rfl : m = c := by omega
              have HDN := Lib.hid (show Row wr (some ⟨g, 0, none⟩) (texts (D.drop m)) from .inl (by
                rw [List.drop_of_length_le (by have := HM.out; omega)]; rfl))
              go_wp2_with fail
              go_quiet (fail)
              go_wp2_with (at_builtin; refine wpList_append_texts rfl _ _ rfl wr.heap.size _ 0 [] rfl (some ⟨g, 0, none⟩) m m (D.take m) rfl ?ownx31 ?rowx31 ?lenx31 ?lex31 ?nilx31 ?q1x31 ?q2x31 ?_)
              case ownx31 => first | exact own_empty (Nat.le_refl _) | exact own_dr (own_empty (Nat.le_refl _)) _
              case rowx31 => first | exact (texts_front HRW.out m).keep (Nat.le_refl _) (bpush (Below.refl _ _) _) | exact (texts_front HRW.out m).keep (Nat.le_refl _) (below_drewN (bpush (Below.refl _ _) _) _)
              case lenx31 => rw [List.length_take]; have := HM.out; omega
              case lex31 => omega
              try case nilx31 => first | (intro h; cases h; done) | (intro h; exact Ha.out h) | (have := Ha.out (by simp); omega)
              case q1x31 => omega
              case q2x31 => simp
              intro v1 w1 ho1 hg1 _
              have HO1 := Lib.hid (show w1.ownsRow wr.heap.size 9 1 v1 m (texts (D.take m)) by simpa using ho1)
              have HB1 := Lib.hid (show Below wr.heap.size wr w1 by first | exact (bpush (Below.refl _ _) _).trans (grown_own (own_empty (Nat.le_refl _)) hg1 (by simp)) | exact (below_drewN (bpush (Below.refl _ _) _) _).trans (grown_own (own_dr (own_empty (Nat.le_refl _)) _) hg1 (by simp)))
              have hsz1 : wr.heap.size ≤ w1.heap.size := HB1.out.size
              have k1 := cell_on HB1.out c0
              clear ho1 hg1
              go_wp2_with (at_builtin; refine wpList_append_own _ rfl _ _ 22 rfl wr.heap.size 9 i0 (.string ⟨#[]⟩) 1 16 Try.underlying22 hi0 hz0 hz1 hz2 rfl (by decide) _ _ _ rfl (HO1.out.alloc _) ⟨w1.heap.size, 0, none⟩ 1 1 [.string x] rfl rfl ?c1x32 ?c2x32 ?c3x32 ?c4x32 ?c5x32 ?_)
              case c1x32 => intro j z hj; match j, hj with | 0, hj => simp at hj; subst hj; simp [Addr.add]
              case c2x32 => intro z hu; simp at hu; subst hu; rfl
              case c3x32 => unfold maxLen; omega
              case c4x32 => omega
              case c5x32 => simp; exact Nat.le_succ_of_le hsz1
              intro v2 w2 ho2 hg2 _
              have HO2 := Lib.hid (show w2.ownsRow wr.heap.size 9 1 v2 (m + 1) (texts (D.take m ++ [x])) by rw [← texts_append]; exact ho2)
              have HB2 := Lib.hid (show Below wr.heap.size wr w2 from (HB1.out.alloc hsz1 _).trans (grown_own (HO1.out.alloc _) hg2 (by simp; exact Nat.le_succ_of_le hsz1)))
              have hsz2 : wr.heap.size ≤ w2.heap.size := HB2.out.size
              clear ho2 hg2
              go_wp2_with (at_builtin; refine wpList_append_texts rfl _ _ rfl wr.heap.size _ _ _ rfl (some ⟨g, 0, none⟩) 0 0 (D.drop m) rfl HO2.out ?rowx33 ?lenx33 ?lex33 ?nilx33 ?q1x33 ?q2x33 ?_)
              case rowx33 => exact (HDN.out : Row wr _ _).keep (Nat.le_refl _) HB2.out
              case lenx33 => rw [List.length_drop]; have := HM.out; omega
              case lex33 => omega
              try case nilx33 => first | (intro h; cases h; done) | (intro h; have := Ha.out h; omega) | (have := Ha.out (by simp); omega)
              case q1x33 => omega
              case q2x33 => exact hsz2
              intro v3 w3 ho3 hg3 _
              have hm1 : m + 1 + 0 = m + 1 := by omega
              have HO3 := Lib.hid (show w3.ownsRow wr.heap.size 9 1 v3 (m + 1) (texts (ins x D)) by rw [texts_append] at ho3; rw [HINS.out, ← hm1]; exact ho3)
              have HB3 := Lib.hid (show Below w.heap.size w w3 from HBW.out.trans ((HB2.out.trans (grown_own HO2.out hg3 hsz2)).mono HBW.out.size))
              obtain ⟨g3, c3, rfl, hc3, hr3⟩ := Row.of_own HO3.out (by omega)
              have HR3 := Lib.hid hr3
              clear ho3 hg3 hm1 k1 hr3
              go_wp2_with fail
              go_roundw
              case rel => exact ⟨k + 1, m + 1, c3, some ⟨g3, 0, none⟩, ins x D, by omega, by omega, by go_num, rfl, Lib.hid (by rw [HTK.out, dictL_snoc, if_neg HNI.out, ← HD.out]), Lib.hid (by have := HO3.out.1; simp [texts] at this; exact this.symm), hc3, Lib.hid (fun h => by cases h), Lib.hid (.inr ⟨g3, rfl⟩), HR3, HFT2, HB3⟩
              case measure => simp [intOf]; omega

            · have hc00 : ¬ c = 0 := by omega
              go_wp2_with fail
              go_quiet (fail)
              go_wp2_with (at_builtin; refine wpList_append_texts rfl _ _ rfl wr.heap.size _ 0 [] rfl (some ⟨g, 0, none⟩) u c (D.take u) rfl ?ownx41 ?rowx41 ?lenx41 ?lex41 ?nilx41 ?q1x41 ?q2x41 ?_)
              case ownx41 => first | exact own_empty (Nat.le_refl _) | exact own_dr (own_empty (Nat.le_refl _)) _
              case rowx41 => first | exact (texts_front HRW.out u).keep (Nat.le_refl _) (bpush (Below.refl _ _) _) | exact (texts_front HRW.out u).keep (Nat.le_refl _) (below_drewN (bpush (Below.refl _ _) _) _)
              case lenx41 => rw [List.length_take]; have := HM.out; omega
              case lex41 => omega
              try case nilx41 => first | (intro h; cases h; done) | (intro h; exact Ha.out h) | (have := Ha.out (by simp); omega)
              case q1x41 => omega
              case q2x41 => simp
              intro v1 w1 ho1 hg1 _
              have HO1 := Lib.hid (show w1.ownsRow wr.heap.size 9 1 v1 u (texts (D.take u)) by simpa using ho1)
              have HB1 := Lib.hid (show Below wr.heap.size wr w1 by first | exact (bpush (Below.refl _ _) _).trans (grown_own (own_empty (Nat.le_refl _)) hg1 (by simp)) | exact (below_drewN (bpush (Below.refl _ _) _) _).trans (grown_own (own_dr (own_empty (Nat.le_refl _)) _) hg1 (by simp)))
              have hsz1 : wr.heap.size ≤ w1.heap.size := HB1.out.size
              have k1 := cell_on HB1.out c0
              clear ho1 hg1
              go_wp2_with (at_builtin; refine wpList_append_own _ rfl _ _ 22 rfl wr.heap.size 9 i0 (.string ⟨#[]⟩) 1 16 Try.underlying22 hi0 hz0 hz1 hz2 rfl (by decide) _ _ _ rfl (HO1.out.alloc _) ⟨w1.heap.size, 0, none⟩ 1 1 [.string x] rfl rfl ?c1x42 ?c2x42 ?c3x42 ?c4x42 ?c5x42 ?_)
              case c1x42 => intro j u hj; match j, hj with | 0, hj => simp at hj; subst hj; simp [Addr.add]
              case c2x42 => intro u hu; simp at hu; subst hu; rfl
              case c3x42 => unfold maxLen; omega
              case c4x42 => omega
              case c5x42 => simp; exact Nat.le_succ_of_le hsz1
              intro v2 w2 ho2 hg2 _
              have HO2 := Lib.hid (show w2.ownsRow wr.heap.size 9 1 v2 (u + 1) (texts (D.take u ++ [x])) by rw [← texts_append]; exact ho2)
              have HB2 := Lib.hid (show Below wr.heap.size wr w2 from (HB1.out.alloc hsz1 _).trans (grown_own (HO1.out.alloc _) hg2 (by simp; exact Nat.le_succ_of_le hsz1)))
              have hsz2 : wr.heap.size ≤ w2.heap.size := HB2.out.size
              clear ho2 hg2
              go_wp2_with (at_builtin; refine wpList_append_texts rfl _ _ rfl wr.heap.size _ _ _ rfl (some ⟨g, u, none⟩) (m - u) (c - u) (D.drop u) rfl HO2.out ?rowx43 ?lenx43 ?lex43 ?nilx43 ?q1x43 ?q2x43 ?_)
              case rowx43 => exact (by have := texts_drop HRW.out u; rwa [Nat.zero_add] at this : Row wr _ _).keep (Nat.le_refl _) HB2.out
              case lenx43 => rw [List.length_drop]; have := HM.out; omega
              case lex43 => omega
              try case nilx43 => first | (intro h; cases h; done) | (intro h; have := Ha.out h; omega) | (have := Ha.out (by simp); omega)
              case q1x43 => omega
              case q2x43 => exact hsz2
              intro v3 w3 ho3 hg3 _
              have hm1 : u + 1 + (m - u) = m + 1 := by omega
              have HO3 := Lib.hid (show w3.ownsRow wr.heap.size 9 1 v3 (m + 1) (texts (ins x D)) by rw [texts_append] at ho3; rw [HINS.out, ← hm1]; exact ho3)
              have HB3 := Lib.hid (show Below w.heap.size w w3 from HBW.out.trans ((HB2.out.trans (grown_own HO2.out hg3 hsz2)).mono HBW.out.size))
              obtain ⟨g3, c3, rfl, hc3, hr3⟩ := Row.of_own HO3.out (by omega)
              have HR3 := Lib.hid hr3
              clear ho3 hg3 hm1 k1 hr3
              go_wp2_with fail
              go_roundw
              case rel => exact ⟨k + 1, m + 1, c3, some ⟨g3, 0, none⟩, ins x D, by omega, by omega, by go_num, rfl, Lib.hid (by rw [HTK.out, dictL_snoc, if_neg HNI.out, ← HD.out]), Lib.hid (by have := HO3.out.1; simp [texts] at this; exact this.symm), hc3, Lib.hid (fun h => by cases h), Lib.hid (.inr ⟨g3, rfl⟩), HR3, HFT2, HB3⟩
              case measure => simp [intOf]; omega

    · have hge : ¬ (k : Int) < (n : Int) := by omega
      have HLE := Lib.hid (show L.take k = L by rw [List.take_of_length_le (by have := HN.out; omega)])
      have HEND := Lib.hid (show RefNewPost w L (.returned (.tuple #[.slice A m c, .int .i64 0])) wr from .inl ⟨by have := HFT.out; rw [HLE.out] at this; exact this, A, c, by have h1 := HD.out; have h2 := HM.out; rw [HLE.out] at h1; rw [← h1, ← h2], by have h1 := HD.out; rw [HLE.out] at h1; rw [← h1]; exact HRW.out, by have h1 := HD.out; have h2 := HM.out; rw [HLE.out] at h1; rw [← h1, ← h2]; exact hmc, Ha.out, HBW.out⟩)
      have hd1 : decide ((65536 : Int) < (m : Int)) = false := by simp; omega
      clear hlt
      go_wp2_with fail
      go_ret2
      exact HEND.out
end Go.Proofs.Ytgegmbkjkiifaaa
