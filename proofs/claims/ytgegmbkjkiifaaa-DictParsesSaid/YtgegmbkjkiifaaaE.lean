/- A dictionary; its texts; a text's number; New. -/
import Derived.Test.YtgegmbkjkiifaaaD
namespace Go.Proofs.Ytgegmbkjkiifaaa
open Go.RowKit Go.Lib
set_option linter.unusedSimpArgs false
set_option linter.unusedVariables false
/-- A pointer that is a dictionary of some texts. -/
def DictP (w : World) (p : Value) (D : List ByteArray) : Prop :=
  (p = .pointer none ∧ D = []) ∨ ∃ g A c, p = .pointer (some ⟨g, 0, none⟩) ∧ w.cell? ⟨g, 0, none⟩ = some (.slice A D.length c) ∧ Row w A (texts D) ∧ D.length ≤ c ∧ c ≤ 9223372036854775807 ∧ (A = none → c = 0)
theorem DictP.keep {w w' : World} {p : Value} {D : List ByteArray} (h : DictP w p D) (hb : Below w.heap.size w w') : DictP w' p D := by
  rcases h with h | ⟨g, A, c, h1, h2, h3, h4⟩
  · exact .inl h
  · exact .inr ⟨g, A, c, h1, cell_on hb h2, h3.keep (Nat.le_refl _) hb, h4⟩
def AllPost (w : World) (D : List ByteArray) (e : Ending) (w' : World) : Prop := ∃ A c, e = .returned (.slice A D.length c) ∧ Row w A (texts D) ∧ D.length ≤ c ∧ c ≤ 9223372036854775807 ∧ (A = none → c = 0) ∧ w = w'
set_option maxRecDepth 100000 in
set_option maxHeartbeats 4000000 in
theorem all_any (p : Value) (D : List ByteArray) (w : World) (h : DictP w p D) : Calls Try.prog 32 #[p] w (AllPost w D) := by
  rcases h with ⟨rfl, rfl⟩ | ⟨g, A, c, rfl, h2, h3, h4, h5, h6⟩
  · go_enter Try.func32, Try.ntmps32
    go_wp2_with fail
    go_ret
    exact ⟨none, 0, rfl, .inl rfl, Nat.le_refl _, by omega, fun _ => rfl, rfl⟩
  · obtain ⟨n, hn⟩ : ∃ n, n = D.length := ⟨_, rfl⟩
    rw [← hn] at h2
    have HP := Lib.hid (show AllPost w D (.returned (.slice A n c)) w from ⟨A, c, by rw [hn], h3, h4, h5, h6, rfl⟩)
    clear h3 h4 h5 h6 hn
    go_enter Try.func32, Try.ntmps32
    go_wp2_with fail
    go_ret
    exact HP.out
set_option maxRecDepth 100000 in
set_option maxHeartbeats 4000000 in
theorem len_any (p : Value) (D : List ByteArray) (w : World) (h : DictP w p D) : Calls Try.prog 24 #[p] w fun e w' => e = .returned (.int .i64 D.length) ∧ w = w' := by
  have H := Lib.hid h
  clear h
  go_enter Try.func24, Try.ntmps24
  go_wp2_with fail
  refine (all_any p D _ H.out).mono ?_
  rintro e w' ⟨A, c, rfl, _, _, _, _, rfl⟩
  go_wp2_with fail
  go_ret
  exact ⟨rfl, rfl⟩
set_option maxRecDepth 100000 in
set_option maxHeartbeats 4000000 in
theorem nan68_any (s : ByteArray) (w : World) : Calls Try.prog 68 #[.string s] w fun e w' => e = .returned (.bool false) ∧ w = w' := by
  go_enter Try.func68, Try.ntmps68
  go_wp2_with fail
  go_ret
  exact ⟨by simp, rfl⟩
set_option maxRecDepth 100000 in
set_option maxHeartbeats 4000000 in
theorem nan51_any (s : ByteArray) (w : World) : Calls Try.prog 51 #[.string s] w fun e w' => e = .returned (.bool false) ∧ w = w' := by
  go_enter Try.func51, Try.ntmps51
  go_wp2_with fail
  go_ret
  exact ⟨by simp, rfl⟩
theorem less_bool (a b : ByteArray) : Op.bytesLess a.toList b.toList = decide (ltT a b) := by
  rw [bytesLess_eq, ByteArray.toList_eq, ByteArray.toList_eq]; rfl
set_option maxRecDepth 100000 in
set_option maxHeartbeats 4000000 in
theorem less_any (a b : ByteArray) (w : World) (r : Bool) (hr : r = true ↔ ltT a b) : Calls Try.prog 50 #[.string a, .string b] w fun e w' => e = .returned (.bool r) ∧ w = w' := by
  have hl : Op.bytesLess a.toList b.toList = r := by rw [less_bool, Bool.eq_iff_iff, decide_eq_true_iff]; exact hr.symm
  clear hr
  go_enter Try.func50, Try.ntmps50
  go_wp2_with fail
  refine (nan68_any a _).mono ?_
  rintro e w' ⟨rfl, rfl⟩
  go_wp2_with fail
  go_ret
  exact ⟨by simp [hl], rfl⟩
set_option maxRecDepth 100000 in
set_option maxHeartbeats 4000000 in
theorem bs_any (A : Option Addr) (n c : Nat) (D : List ByteArray) (s : ByteArray) (w : World) (hA : Row w A (texts D)) (hn : n = D.length) (hn2 : n ≤ 4611686018427387903) (hr : rising D) (q : Bool) (hq : q = true ↔ s ∈ D) :
    Calls Try.prog 31 #[.slice A n c, .string s] w fun e w' => e = .returned (.tuple #[.int .i64 (upto D s), .bool q]) ∧ w = w' := by
  have HA := Lib.hid hA
  have HN := Lib.hid hn
  have HR := Lib.hid hr
  have HQ := Lib.hid hq
  obtain ⟨u, hu⟩ : ∃ u, u = upto D s := ⟨_, rfl⟩
  have hun : u ≤ n := by rw [hu, hn]; exact upto_le D s
  have HU := Lib.hid hu
  rw [← hu]
  clear hA hn hr hq hu
  go_enter Try.func31, Try.ntmps31
  go_wp2_with fail
  go_loop [7, 8, 9] (fun i j h => ∃ lo hi : Nat, lo ≤ u ∧ u ≤ hi ∧ hi ≤ n ∧ i = .int .i64 lo ∧ j = .int .i64 hi) (fun i j _ => (intOf j - intOf i).toNat)
  case atStart => exact ⟨0, n, Nat.zero_le _, hun, Nat.le_refl _, rfl, rfl⟩
  case round =>
    obtain ⟨lo, hi, h1, h2, h3, rfl, rfl⟩ := hrel
    by_cases hlt : lo < hi
    · have hli : (lo : Int) < (hi : Int) := by omega
      obtain ⟨m, hm⟩ : ∃ m, m = (lo + hi) / 2 := ⟨_, rfl⟩
      have hml : lo ≤ m ∧ m < hi := by omega
      have hmz : m < D.length := by have := HN.out; omega
      obtain ⟨b, off, hAe, c0⟩ := text_cell HA.out hmz
      obtain ⟨x, hx⟩ : ∃ x, x = D[m] := ⟨_, rfl⟩
      rw [← hx] at c0
      have HX := Lib.hid hx
      have e1 : ((lo : Int) + (hi : Int)) / 2 = (m : Int) := by omega
      have e2 : ((lo : Int) + (hi : Int)).tdiv 2 = (m : Int) := by rw [Int.tdiv_eq_ediv_of_nonneg (by omega)]; exact e1
      have hm0 : (0 : Int) ≤ (m : Int) := by omega
      have hm1 : (m : Int) < (n : Int) := by omega
      have hmi : (m : Int) < (hi : Int) := by omega
      have hwm : IntKind.i64.wrap (m : Int) = (m : Int) := IntWalk.i64_in _ (by omega)
      obtain ⟨r, hr⟩ := bool_of (ltT x s)
      have HR2 := Lib.hid hr
      have HLT := Lib.hid (show ltT x s ↔ m < u by rw [hx, HU.out]; exact upto_spec HR.out s m hmz)
      subst hAe
      clear hx hr hlt hm
      go_wp2_with fail
      refine (less_any x s _ r HR2.out).mono ?_
      rintro e w' ⟨rfl, rfl⟩
      cases r with
      | true =>
        have hmu : m < u := HLT.out.1 (HR2.out.1 rfl)
        go_wp2_with fail
        go_round
        case rel => exact ⟨m + 1, hi, by omega, by omega, by omega, by go_num, rfl⟩
        case measure => simp [intOf]; omega
      | false =>
        have hmu : u ≤ m := by
          rcases Nat.lt_or_ge m u with h | h
          · have := HR2.out.2 (HLT.out.2 h); cases this
          · exact h
        go_wp2_with fail
        go_round
        case rel => exact ⟨lo, m, by omega, by omega, by omega, rfl, rfl⟩
        case measure => simp [intOf]; omega
    · obtain rfl : lo = hi := by omega
      obtain rfl : lo = u := by omega
      clear hlt h1 h2 h3
      have HM := Lib.hid (HQ.out.trans (upto_mem HR.out s))
      by_cases hun2 : lo < n
      · have hmz : lo < D.length := by have := HN.out; omega
        have hli : (lo : Int) < (n : Int) := by omega
        have hl0 : (0 : Int) ≤ (lo : Int) := by omega
        obtain ⟨b, off, hAe, c0⟩ := text_cell HA.out hmz
        obtain ⟨x, hx⟩ : ∃ x, x = D[lo] := ⟨_, rfl⟩
        rw [← hx] at c0
        have HX := Lib.hid hx
        subst hAe
        clear hx hun2
        by_cases hxs : x = s
        · subst hxs
          obtain rfl : q = true := HM.out.2 (by rw [← HU.out]; exact ⟨hmz, HX.out.symm⟩)
          go_wp2_with fail
          go_ret2
          exact ⟨rfl, rfl⟩
        · obtain rfl : q = false := by
            cases q with
            | false => rfl
            | true =>
              have := HM.out.1 rfl
              rw [← HU.out] at this
              obtain ⟨h, e⟩ := this
              exact absurd (HX.out.trans e) hxs
          have hne := str_ne hxs
          clear hxs
          go_wp2_with fail
          refine (nan51_any x _).mono ?_
          rintro e w' ⟨rfl, rfl⟩
          go_wp2_with fail
          go_ret2
          exact ⟨rfl, rfl⟩
      · have hge : ¬ (lo : Int) < (n : Int) := by omega
        have hd : decide ((lo : Int) < (n : Int)) = false := by simp; omega
        have hd2 : decide (lo < n) = false := by simp; omega
        obtain rfl : q = false := by
          cases q with
          | false => rfl
          | true =>
            have := HM.out.1 rfl
            rw [← HU.out] at this
            obtain ⟨h, e⟩ := this
            have := HN.out; omega
        clear hun2
        go_wp2_with fail
        go_ret2
        exact ⟨rfl, rfl⟩
set_option maxRecDepth 100000 in
set_option maxHeartbeats 4000000 in
theorem find_any (p : Value) (D : List ByteArray) (s : ByteArray) (w : World) (h : DictP w p D) (hl : D.length ≤ 4611686018427387903) (hr : rising D) (q : Bool) (hq : q = true ↔ s ∈ D) :
    Calls Try.prog 13 #[p, .string s] w fun e w' => e = .returned (.tuple #[.int .i64 (if q then upto D s else 0 : Nat), .bool q]) ∧ w = w' := by
  have H := Lib.hid h
  have HR := Lib.hid hr
  have HQ := Lib.hid hq
  have HL := Lib.hid hl
  clear h hr hq hl
  go_enter Try.func13, Try.ntmps13
  go_wp2_with fail
  refine (all_any p D _ H.out).mono ?_
  rintro e w' ⟨A, c, rfl, hrow, _, _, _, rfl⟩
  have HROW := Lib.hid hrow
  clear hrow
  go_wp2_with fail
  refine (bs_any A D.length c D s _ HROW.out rfl HL.out HR.out q HQ.out).mono ?_
  rintro e w' ⟨rfl, rfl⟩
  cases q with
  | true =>
    go_wp2_with fail
    go_ret2
    exact ⟨rfl, rfl⟩
  | false =>
    go_wp2_with fail
    go_ret2
    exact ⟨rfl, rfl⟩
set_option maxRecDepth 100000 in
set_option maxHeartbeats 4000000 in
theorem upto_any (p : Value) (D : List ByteArray) (s : ByteArray) (w : World) (h : DictP w p D) (hl : D.length ≤ 4611686018427387903) (hr : rising D) :
    Calls Try.prog 17 #[p, .string s] w fun e w' => e = .returned (.int .i64 (upto D s)) ∧ w = w' := by
  have H := Lib.hid h
  have HR := Lib.hid hr
  have HL := Lib.hid hl
  clear h hr hl
  obtain ⟨q, hq⟩ := bool_of (s ∈ D)
  have HQ := Lib.hid hq
  clear hq
  go_enter Try.func17, Try.ntmps17
  go_wp2_with fail
  refine (all_any p D _ H.out).mono ?_
  rintro e w' ⟨A, c, rfl, hrow, _, _, _, rfl⟩
  have HROW := Lib.hid hrow
  clear hrow
  go_wp2_with fail
  refine (bs_any A D.length c D s _ HROW.out rfl HL.out HR.out q HQ.out).mono ?_
  rintro e w' ⟨rfl, rfl⟩
  go_wp2_with fail
  go_ret
  exact ⟨rfl, rfl⟩
set_option maxRecDepth 100000 in
set_option maxHeartbeats 4000000 in
theorem dtext_any (p : Value) (D : List ByteArray) (i : Nat) (w : World) (h : DictP w p D) (hi : i < D.length) (hl : D.length ≤ 4611686018427387903) (s : ByteArray) (hs : s = D[i]) :
    Calls Try.prog 15 #[p, .int .i64 i] w fun e w' => e = .returned (.tuple #[.string s, .bool true]) ∧ w = w' := by
  rcases h with ⟨rfl, rfl⟩ | ⟨g, A, c, rfl, h2, h3, h4, h5, h6⟩
  · simp at hi
  · have H := Lib.hid (show DictP w (.pointer (some ⟨g, 0, none⟩)) D from .inr ⟨g, A, c, rfl, h2, h3, h4, h5, h6⟩)
    obtain ⟨b, off, rfl, c0⟩ := text_cell h3 hi
    rw [← hs] at c0
    obtain ⟨n, hn⟩ : ∃ n, n = D.length := ⟨_, rfl⟩
    have HN := Lib.hid hn
    rw [← hn] at h2 hi hl
    have h0 : (0 : Int) ≤ (i : Int) := by omega
    have hin : (i : Int) < (n : Int) := by omega
    have hd : decide (n ≤ i) = false := by simp; omega
    have hd2 : decide ((n : Int) ≤ (i : Int)) = false := by simp; omega
    clear h3 h4 h5 h6 hn hs
    go_enter Try.func15, Try.ntmps15
    go_wp2_with fail
    refine (len_any _ D _ H.out).mono ?_
    rw [← HN.out]
    rintro e w' ⟨rfl, rfl⟩
    go_wp2_with fail
    go_ret2
    exact ⟨rfl, rfl⟩
set_option maxRecDepth 100000 in
set_option maxHeartbeats 4000000 in
theorem text_no (p : Value) (D : List ByteArray) (i : Int) (w : World) (h : DictP w p D) (hi : i < 0 ∨ (D.length : Int) ≤ i) :
    Calls Try.prog 15 #[p, .int .i64 i] w fun e w' => e = .returned (.tuple #[.string ⟨#[]⟩, .bool false]) ∧ w = w' := by
  have H := Lib.hid h
  clear h
  obtain ⟨n, hn⟩ : ∃ n, n = D.length := ⟨_, rfl⟩
  have HN := Lib.hid hn
  rw [← hn] at hi
  by_cases h0 : i < 0
  · clear hi hn
    go_enter Try.func15, Try.ntmps15
    go_wp2_with fail
    go_ret2
    exact ⟨rfl, rfl⟩
  · have hd0 : decide (i < 0) = false := by simp; omega
    have hd : decide ((n : Int) ≤ i) = true := by simp; omega
    have hd' : (n : Int) ≤ i := by omega
    clear hi hn h0
    go_enter Try.func15, Try.ntmps15
    go_wp2_with fail
    refine (len_any _ D _ H.out).mono ?_
    rw [← HN.out]
    rintro e w' ⟨rfl, rfl⟩
    go_wp2_with fail
    go_ret2
    exact ⟨rfl, rfl⟩
/-- What New answers. -/
def NewPost (w : World) (L : List ByteArray) (e : Ending) (w' : World) : Prop :=
  (((∀ s ∈ L, fitsT s) ∧ (dictL L).length ≤ 65536) ∧ ∃ p, e = .returned (.tuple #[p, .int .i64 0]) ∧ DictP w' p (dictL L) ∧ Below w.heap.size w w') ∨
  (¬ ((∀ s ∈ L, fitsT s) ∧ (dictL L).length ≤ 65536) ∧ e = .returned (.tuple #[.pointer none, .int .i64 61]) ∧ Below w.heap.size w w')
set_option maxRecDepth 100000 in
set_option maxHeartbeats 4000000 in
theorem new_any (A : Option Addr) (n c : Nat) (L : List ByteArray) (w : World) (hA : Row w A (texts L)) (hn : n = L.length) (hn2 : n * 16 ≤ 140737488355328) (hL : ∀ s ∈ L, s.size ≤ 9223372036854775807) :
    Calls Try.prog 10 #[.slice A n c] w (NewPost w L) := by
  have HA := Lib.hid hA
  have HN := Lib.hid hn
  have HL := Lib.hid hL
  obtain ⟨r, hr⟩ := bool_of (∃ s ∈ L, ¬ fitsT s)
  have HR := Lib.hid hr
  have hF : r = false → ∀ s ∈ L, fitsT s := fun e s hs => Classical.byContradiction fun h => by have := hr.2 ⟨s, hs, h⟩; rw [e] at this; cases this
  have HF := Lib.hid hF
  clear hA hn hL hr hF
  go_enter Try.func10, Try.ntmps10
  go_wp2_with fail
  refine (haswrong_any A n c L _ HA.out HN.out (by omega) HL.out r HR.out).mono ?_
  rintro e w1 ⟨rfl, hb⟩
  have HB := Lib.hid hb
  clear hb
  cases r with
  | true =>
    have hno : ¬ ((∀ s ∈ L, fitsT s) ∧ (dictL L).length ≤ 65536) := fun h => by obtain ⟨s, hs, k⟩ := HR.out.1 rfl; exact k (h.1 s hs)
    have HNO := Lib.hid hno
    clear hno
    go_wp2_with fail
    go_ret2
    exact .inr ⟨HNO.out, rfl, HB.out⟩
  | false =>
    have HFT := Lib.hid (HF.out rfl)
    go_wp2_with fail
    refine (clone_any A n c L _ (HA.out.keep (Nat.le_refl _) HB.out) HN.out hn2).mono ?_
    rintro e w2 ⟨v, rfl, ho, hb⟩
    have HB2 := Lib.hid (bthen HB.out hb)
    have HO := Lib.hid ho
    have hsz : w1.heap.size ≤ w2.heap.size := hb.size
    clear hb ho
    go_wp2_with fail
    refine (sort_own w1.heap.size v L.length L _ HO.out (by have := HN.out; omega)).mono ?_
    rintro e w3 ⟨rfl, ho, hb⟩
    have HO3 := Lib.hid ho
    have HB3 := Lib.hid (show Below w1.heap.size w2 w3 from hb)
    clear hb ho
    go_wp2_with fail
    refine (compact_own w1.heap.size v L.length (sortD L) _ HO3.out (by have := HN.out; omega)).mono ?_
    rintro e w4 ⟨v4, rfl, ho, hb⟩
    rw [texts_ofD] at ho
    have hlen : (dictL L).length = (compact (sortD L)).length := by simp [dictL]
    have ho' : w4.ownsRow w1.heap.size 9 1 v4 (dictL L).length (texts (dictL L)) := by rw [hlen]; exact ho
    obtain ⟨A5, c5, rfl, hr5, hc5, ha5⟩ := own_slice ho'
    have hcm : c5 ≤ 9223372036854775807 := by
      rcases ho'.2 with ⟨h, _⟩ | ⟨g, cap, cur, h, _, _, _, h5, _⟩
      · simp only [Value.slice.injEq] at h; omega
      · simp only [Value.slice.injEq] at h; unfold maxLen at h5; omega
    have HB4 := Lib.hid (show Below w.heap.size w w4 from HB2.out.trans ((HB3.out.trans hb).mono HB.out.size))
    have HP := Lib.hid (show ∀ w', Below w4.heap.size w4 w' → ∀ g, w'.cell? ⟨g, 0, none⟩ = some (.slice A5 (dictL L).length c5) → DictP w' (.pointer (some ⟨g, 0, none⟩)) (dictL L) from fun w' hb g hg => .inr ⟨g, A5, c5, rfl, hg, hr5.keep (Nat.le_refl _) hb, hc5, hcm, ha5⟩)
    obtain ⟨k, hk⟩ : ∃ k, k = (dictL L).length := ⟨_, rfl⟩
    have HK := Lib.hid hk
    rw [← hk] at HP ⊢
    clear ho ho' hr5 hc5 ha5 hcm hlen hb hk
    by_cases hd : k ≤ 65536
    · have hd1 : decide ((65536 : Int) < (k : Int)) = false := by simp; omega
      have HGD := Lib.hid (show (∀ s ∈ L, fitsT s) ∧ (dictL L).length ≤ 65536 from ⟨HFT.out, by rw [← HK.out]; exact hd⟩)
      clear hd
      go_wp2_with fail
      go_ret2
      exact .inl ⟨HGD.out, _, rfl, HP.out _ (bpush (Below.refl _ _) _) _ (by simp), bthen HB4.out (bpush (Below.refl _ _) _)⟩
    · have hd1 : decide ((65536 : Int) < (k : Int)) = true := by simp; omega
      have HGD := Lib.hid (show ¬ ((∀ s ∈ L, fitsT s) ∧ (dictL L).length ≤ 65536) from fun h => hd (by rw [HK.out]; exact h.2))
      clear hd
      go_wp2_with fail
      go_ret2
      exact .inr ⟨HGD.out, rfl, HB4.out⟩
end Go.Proofs.Ytgegmbkjkiifaaa
