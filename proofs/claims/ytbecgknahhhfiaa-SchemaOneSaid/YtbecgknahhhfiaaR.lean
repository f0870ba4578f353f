/- Subset. -/
import Derived.Test.YtbecgknahhhfiaaP
namespace Go.Proofs.Ytbecgknahhhfiaa
open Go.RowKit
set_option linter.unusedSimpArgs false
set_option linter.unusedVariables false
theorem texts_drop {w : World} {A : Option Addr} {L : List ByteArray} (h : Row w A (texts L)) (k : Nat) : Row w (A.map (·.add k)) (texts (L.drop k)) := by
  rcases h with h | ⟨b, off, rfl, hc⟩
  · have : L = [] := List.map_eq_nil_iff.1 h
    subst this; exact .inl (by simp [texts])
  · have e : (⟨b, off, none⟩ : Addr).add k = ⟨b, off + k, none⟩ := by
      unfold Addr.add; split
      · rename_i h; subst h; rfl
      · rfl
    refine .inr ⟨b, off + k, by simp [e], fun j u hu => ?_⟩
    rw [Nat.add_assoc]
    refine hc (k + j) u ?_
    unfold texts at hu ⊢
    rw [List.map_drop, List.getElem?_drop] at hu
    exact hu
theorem sub_none {s : ByteArray} {l M : List ByteArray} (h : FirstAt M s none) : ¬ (s :: l).Sublist M := fun k => by
  have hm : s ∈ M := k.subset (List.mem_cons_self ..)
  obtain ⟨j, hj, e⟩ := List.mem_iff_getElem.1 hm
  exact h j hj e
theorem sub_some : ∀ {M : List ByteArray} {s : ByteArray} {l : List ByteArray} {i : Nat}, FirstAt M s (some i) → ((s :: l).Sublist M ↔ l.Sublist (M.drop (i + 1))) := by
  intro M
  induction M with
  | nil => intro s l i h; obtain ⟨hi, _⟩ := h; simp at hi
  | cons y M ih =>
    intro s l i h
    obtain ⟨hi, e, hn⟩ := h
    cases i with
    | zero =>
      simp at e
      subst e
      simp
    | succ i =>
      have hy : y ≠ s := by have := hn 0 (by omega); simpa using this
      have hf : FirstAt M s (some i) := ⟨by simpa using hi, by simpa using e, fun j hj => by have := hn (j + 1) (by omega); simpa using this⟩
      rw [List.drop_succ_cons, ← ih hf]
      constructor
      · intro k
        cases k with
        | cons _ k => exact k
        | cons_cons _ k => exact absurd rfl hy
      · exact fun k => k.cons _
def subsetP (L M : List ByteArray) : Prop := namesP L ∧ L.Sublist M
theorem cut_case {w : World} {A : Option Addr} {n c : Nat} {L : List ByteArray} (h : Row w A (texts L)) (hn : n = L.length) (hnc : n ≤ c) (k : Nat) (hk : k ≤ n) :
    Row w (if c = k then A else A.map (·.add k)) (texts (L.drop k)) := by
  split
  · rename_i e
    left
    rw [List.drop_of_length_le (by omega)]; rfl
  · exact texts_drop h k
set_option maxRecDepth 100000 in
set_option maxHeartbeats 8000000 in
theorem subset_any (A B : Option Addr) (n c m d : Nat) (L M : List ByteArray) (w : World) (hA : Row w A (texts L)) (hB : Row w B (texts M)) (hn : n = L.length) (hm : m = M.length) (hnc : n ≤ c) (hmd : m ≤ d)
    (hL : ∀ s ∈ L, s.size ≤ 9223372036854775807) (hn2 : n ≤ 9223372036854775807) (hm2 : d ≤ 9223372036854775807) (r : Bool) (hr : r = true ↔ subsetP L M) :
    Calls Try.prog 12 #[.slice A n c, .slice B m d] w fun e w' => e = .returned (.bool r) ∧ Below w.heap.size w w' := by
  have HA := Lib.hid hA
  have HB := Lib.hid hB
  have HN := Lib.hid hn
  have HM := Lib.hid hm
  have HR := Lib.hid hr
  have HL := Lib.hid hL
  clear hA hB hn hm hr hL
  obtain ⟨q, hq⟩ := bool_of (namesP L)
  have HQ := Lib.hid hq
  clear hq
  go_enter Try.func12, Try.ntmps12
  go_wp2_with fail
  refine (names_any A n c L _ HA.out HN.out hnc hn2 HL.out q HQ.out).mono ?_
  rintro e w1 ⟨rfl, hb⟩
  have HB1 := Lib.hid hb
  have HA1 := Lib.hid (HA.out.keep (Nat.le_refl _) hb)
  have HM1 := Lib.hid (HB.out.keep (Nat.le_refl _) hb)
  clear hb
  cases q with
  | false =>
    obtain rfl : r = false := by
      cases r with
      | false => rfl
      | true => have := HQ.out.2 (HR.out.1 rfl).1; cases this
    go_wp2_with fail
    go_ret
    exact ⟨rfl, HB1.out⟩
  | true =>
    have HS := Lib.hid (show r = true ↔ L.Sublist M from ⟨fun h => (HR.out.1 h).2, fun h => HR.out.2 ⟨HQ.out.1 rfl, h⟩⟩)
    go_wp2_with fail
    go_loop [1, 13] (fun v i => ∃ k : Nat, ∃ (B' : Option Addr) (m' d' : Nat) (M' : List ByteArray), k ≤ n ∧ i = .int .i64 k ∧ v = .slice B' m' d' ∧ Hid (Row w1 B' (texts M')) ∧ Hid (m' = M'.length) ∧ m' ≤ d' ∧ d' ≤ 9223372036854775807 ∧ Hid (r = true ↔ (L.drop k).Sublist M')) (fun _ i => n - (intOf i).toNat)
    case atStart => exact ⟨0, B, m, d, M, Nat.zero_le _, rfl, rfl, HM1, HM, hmd, hm2, HS⟩
    case round =>
      obtain ⟨k, B', m', d', M', hk, rfl, rfl, HB', HM', hmd', hd', HS'⟩ := hrel
      by_cases hlt : k < n
      · have hkz : k < L.length := by have := HN.out; omega
        have hki : (k : Int) < (n : Int) := by omega
        have hk0 : (0 : Int) ≤ (k : Int) := by omega
        obtain ⟨b, off, hAe, c0⟩ := text_cell HA1.out hkz
        obtain ⟨t, ht⟩ : ∃ t, t = L[k] := ⟨_, rfl⟩
        rw [← ht] at c0
        have HT := Lib.hid (show L.drop k = t :: L.drop (k + 1) by rw [ht]; exact List.drop_eq_getElem_cons hkz)
        subst hAe
        clear ht
        go_wp2_with fail
        refine (index_any B' m' d' M' t _ HB'.out HM'.out (by omega)).mono ?_
        rintro e w2 ⟨⟨o, ho, rfl⟩, rfl⟩
        have HO := Lib.hid ho
        clear ho
        cases o with
        | none =>
          have e1 : idxO none = -1 := rfl
          rw [e1]
          obtain rfl : r = false := by
            cases r with
            | false => rfl
            | true => have := HS'.out.1 rfl; rw [HT.out] at this; exact absurd this (sub_none HO.out)
          clear hlt
          go_wp2_with fail
          go_ret
          exact ⟨rfl, HB1.out⟩
        | some i =>
          have e1 : idxO (some i) = (i : Int) := rfl
          rw [e1]
          have hi : i < m' := by have := HO.out.1; have := HM'.out; omega
          have h0 : (0 : Int) ≤ (i : Int) := by omega
          have h0' : ¬ (i : Int) < 0 := by omega
          have h1 : (i : Int) + 1 ≤ (m' : Int) := by omega
          have h2 : ((i : Int) + 1).toNat = i + 1 := by omega
          have HC := Lib.hid (cut_case HB'.out HM'.out hmd' (i + 1) (by omega))
          obtain ⟨B2, hB2⟩ : ∃ B2, B2 = if d' = i + 1 then B' else B'.map (·.add (i + 1)) := ⟨_, rfl⟩
          rw [← hB2] at HC
          have HS2 := Lib.hid (show r = true ↔ (L.drop (k + 1)).Sublist (M'.drop (i + 1)) by
            have := HS'.out; rw [HT.out, sub_some HO.out] at this; exact this)
          clear hlt
          go_wp2_with fail
          go_round
          case rel => exact ⟨k + 1, B2, m' - (i + 1), d' - (i + 1), M'.drop (i + 1), by omega, by go_num, by rw [hB2]; simp [Addr.add], HC, Lib.hid (by rw [List.length_drop]; have := HM'.out; omega), by omega, by omega, HS2⟩
          case measure => simp [intOf]; omega
      · have hge : ¬ (k : Int) < (n : Int) := by omega
        obtain rfl : r = true := HS'.out.2 (by rw [List.drop_of_length_le (by have := HN.out; omega)]; exact List.nil_sublist _)
        clear hlt
        go_wp2_with fail
        go_ret
        exact ⟨rfl, HB1.out⟩
end Go.Proofs.Ytbecgknahhhfiaa
