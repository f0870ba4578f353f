/- A list of texts of the call's own, sorted, without what stands twice; New. -/
import Derived.Test.YtgegmbkjkiifaaaC
import Derived.Test.YtgegmbkjkiifaaaS
namespace Go.Proofs.Ytgegmbkjkiifaaa
open Go.RowKit Go.Lib
set_option linter.unusedSimpArgs false
set_option linter.unusedVariables false
theorem texts_enc (L : List ByteArray) : texts L = (L.map dat).map encStr := by
  simp only [texts, List.map_map]
  refine List.map_congr_left fun s _ => ?_
  show Value.string s = Value.string (ofD (dat s))
  rw [of_dat]
theorem texts_ofD (zs : List (List UInt8)) : zs.map encStr = texts (zs.map ofD) := by
  have e : dat ∘ ofD = id := funext fun l => dat_of l
  have e2 : (zs.map ofD).map dat = zs := by rw [List.map_map, e, List.map_id]
  rw [texts_enc, e2]
theorem sort_own (B : Nat) (v : Value) (n : Nat) (L : List ByteArray) (w : World) (h : w.ownsRow B 9 1 v n (texts L)) (hn : n * 16 ≤ 140737488355328) :
    Calls Try.prog 28 #[v] w fun e w' => e = .returned (.tuple #[]) ∧ w'.ownsRow B 9 1 v n ((sortD L).map encStr) ∧ Below B w w' := by
  have hl : n = L.length := by have := h.1; simpa [texts] using this.symm
  rw [texts_enc] at h
  have hl2 := sortD_len L
  have hl3 : (L.map dat).length = L.length := List.length_map ..
  rcases h.2 with ⟨rfl, h0⟩ | ⟨g, cap, cur, rfl, hb, hc, h1, h2, h3, h4⟩
  · have hx : L = [] := List.eq_nil_of_length_eq_zero (by omega)
    subst hx
    refine (Try.slices_Sort_string_none none 0 w).mono ?_
    rintro e w' ⟨rfl, rfl⟩
    exact ⟨rfl, by simpa [sortD] using h, Below.refl _ _⟩
  · have hlt : g < w.heap.size := (Array.getElem?_eq_some_iff.1 hc).1
    have hn3 : n = (L.map dat).length := by omega
    rw [hn3] at h1 h4 ⊢
    refine (Try.slices_Sort_string g 0 cap (L.map dat) w (holds_of_block hc (by simpa using h4)) hlt (by omega)).mono ?_
    rintro e w' ⟨rfl, q, os, rfl⟩
    refine ⟨rfl, ?_, (Below.refl B w).grown (grownBy_sorted _) (by omega) (fun k hk => by cases hk; exact hb)⟩
    exact ownsRow_sorted (by rw [hl3]; exact hl2) hb hc h1 h2 h3
def CompPost (B : Nat) (w : World) (zs : List (List UInt8)) (e : Ending) (w' : World) : Prop := ∃ v, e = .returned v ∧ w'.ownsRow B 9 1 v (compact zs).length ((compact zs).map encStr) ∧ Below B w w'
theorem compact_le (zs : List (List UInt8)) : (compact zs).length ≤ zs.length := by
  unfold compact compactUpTo
  simp only [List.length_map]
  refine Nat.le_trans (List.length_filter_le _ _) ?_
  rw [List.length_range]; exact Nat.le_refl _
theorem grow_none (w : World) : Sort.grow w #[] = w := by simp [Sort.grow]
theorem compact_own (B : Nat) (v : Value) (n : Nat) (zs : List (List UInt8)) (w : World) (h : w.ownsRow B 9 1 v n (zs.map encStr)) (hn : n * 16 ≤ 140737488355328) :
    Calls Try.prog 29 #[v] w (CompPost B w zs) := by
  have hl : n = zs.length := by have := h.1; simpa using this.symm
  rcases h.2 with ⟨rfl, h0⟩ | ⟨g, cap, cur, rfl, hb, hc, h1, h2, h3, h4⟩
  · have hx : zs = [] := List.eq_nil_of_length_eq_zero (by omega)
    subst hx
    refine (Try.slices_Compact_string_empty none 0 w).mono ?_
    rintro e w' ⟨rfl, rfl⟩
    exact ⟨_, rfl, World.ownsRow_nil _ _ _ _, Below.refl _ _⟩
  · rw [hl] at h1 h4 ⊢
    refine (Try.slices_Compact_string g 0 cap zs w (holds_of_block hc (by simpa using h4)) (by omega) (by omega)).mono ?_
    rintro e w' ⟨rfl, q, rfl⟩
    have hcl := compact_le zs
    have hlt : g < w.heap.size := (Array.getElem?_eq_some_iff.1 hc).1
    have hh := heap_sorted (n := q) (os := #[]) (compact zs ++ List.replicate (zs.length - (compact zs).length) []).toArray hc
    rw [grow_none] at hh
    have hg := grownBy_sorted (w := w) (g := g) (n := q) (os := #[]) (compact zs ++ List.replicate (zs.length - (compact zs).length) []).toArray
    rw [grow_none] at hg
    refine ⟨_, rfl, ⟨by simp, .inr ⟨g, cap, _, rfl, hb, hh, by omega, h2, by simp [Sort.putCells, h3], ?_⟩⟩, (Below.refl B w).grown hg (by omega) (fun k hk => by cases hk; exact hb)⟩
    have ht := take_putCells cur (compact zs ++ List.replicate (zs.length - (compact zs).length) []) (by simp; omega)
    rw [Nat.mul_one]
    have e1 : (compact zs ++ List.replicate (zs.length - (compact zs).length) ([] : List UInt8)).length = zs.length := by simp; omega
    rw [e1] at ht
    have := congrArg (List.take (compact zs).length) ht
    rw [List.take_take, Nat.min_eq_left hcl] at this
    rw [this, ← List.map_take, List.take_left]
def ClonePost (w : World) (L : List ByteArray) (e : Ending) (w' : World) : Prop := ∃ v, e = .returned v ∧ w'.ownsRow w.heap.size 9 1 v L.length (texts L) ∧ Below w.heap.size w w'
theorem clone_any (A : Option Addr) (n c : Nat) (L : List ByteArray) (w : World) (hA : Row w A (texts L)) (hz : n = L.length) (hn : n * 16 ≤ 140737488355328) :
    Calls Try.prog 27 #[.slice A n c] w (ClonePost w L) := by
  subst hz
  rcases hA with h | ⟨b, off, rfl, hc⟩
  · have : L = [] := List.map_eq_nil_iff.1 h
    subst this
    cases A with
    | none =>
      refine (Try.slices_Clone_string_nil _ _ w).mono ?_
      rintro e w' ⟨rfl, rfl⟩
      exact ⟨_, rfl, World.ownsRow_nil _ _ _ _, Below.refl _ _⟩
    | some a =>
      refine (Try.slices_Clone_string_zero a _ w).mono ?_
      rintro e w' ⟨v', rfl, h1, _, h2⟩
      exact ⟨_, rfl, h1, h2⟩
  · refine (Try.slices_Clone_string b off L.length c L w (Nat.le_refl _) (by omega) (fun j hj => ?_)).mono ?_
    · exact hc j _ (by unfold texts; rw [List.getElem?_map, List.getElem?_eq_getElem hj]; simp [List.getD, List.getElem?_eq_getElem hj])
    · rintro e w' ⟨v', rfl, h1, _, h2⟩
      exact ⟨_, rfl, by simpa [texts] using h1, h2⟩
def fitsT (s : ByteArray) : Prop := s ≠ ⟨#[]⟩ ∧ s.size ≤ 24
set_option maxRecDepth 100000 in
set_option maxHeartbeats 4000000 in
theorem wrong_any (s : ByteArray) (w : World) (hs : s.size ≤ 9223372036854775807) (r : Bool) (hr : r = true ↔ ¬ fitsT s) :
    Calls Try.prog 25 #[.string s] w fun e w' => e = .returned (.bool r) ∧ Below w.heap.size w w' := by
  by_cases h0 : s = ⟨#[]⟩
  · obtain rfl : r = true := hr.2 fun h => h.1 h0
    subst h0
    clear hr
    go_enter Try.func25, Try.ntmps25
    go_wp2_with fail
    go_ret
    exact ⟨rfl, Below.refl _ _⟩
  have k0 : (s.toList == []) = false := str_ne_lit (l := []) h0
  obtain ⟨z, hz⟩ : ∃ z, s.size = z := ⟨_, rfl⟩
  by_cases h1 : 24 < z
  · obtain rfl : r = true := hr.2 fun h => by have := h.2; omega
    have d1 : decide ((24 : Int) < (z : Int)) = true := by simp; omega
    clear hr h0 h1
    go_enter Try.func25, Try.ntmps25
    go_wp2_with fail
    go_ret
    exact ⟨rfl, Below.refl _ _⟩
  · obtain rfl : r = false := by
      cases r with
      | false => rfl
      | true => exact absurd ⟨h0, by omega⟩ (hr.1 rfl)
    have d1 : decide ((24 : Int) < (z : Int)) = false := by simp; omega
    clear hr h0 h1
    go_enter Try.func25, Try.ntmps25
    go_wp2_with fail
    go_ret
    exact ⟨rfl, Below.refl _ _⟩
set_option maxRecDepth 100000 in
set_option maxHeartbeats 4000000 in
theorem anywrong_any (A : Option Addr) (n c : Nat) (L : List ByteArray) (w : World) (hA : Row w A (texts L)) (hz : n = L.length) (hn : n ≤ 9223372036854775807) (hL : ∀ s ∈ L, s.size ≤ 9223372036854775807) (r : Bool) (hr : r = true ↔ ∃ s ∈ L, ¬ fitsT s) :
    Calls Try.prog 47 #[.slice A n c, .func (.func 25) #[] #[]] w fun e w' => (∃ v : Int, e = .returned (.int .i64 v) ∧ (r = true → 0 ≤ v) ∧ (r = false → v = -1)) ∧ Below w.heap.size w w' := by
  have HA := Lib.hid hA
  have HZ := Lib.hid hz
  have HR := Lib.hid hr
  have HL := Lib.hid hL
  clear hA hz hr hL
  go_enter Try.func47, Try.ntmps47
  go_wp2_with fail
  go_loopw [8] (fun i wr => ∃ k : Nat, k ≤ n ∧ i = .int .i64 k ∧ Hid (∀ (j : Nat) (h : j < L.length), j < k → fitsT L[j]) ∧ Hid (Below w.heap.size w wr)) (fun i _ => n - (intOf i).toNat)
  case atStart => exact ⟨0, Nat.zero_le _, rfl, Lib.hid (fun j _ h => by omega), Lib.hid (Below.refl _ _)⟩
  case round =>
    obtain ⟨k, hk, rfl, HK, HB⟩ := hrel
    by_cases hlt : k < n
    · have hkz : k < L.length := by have := HZ.out; omega
      have hki : (k : Int) < (n : Int) := by omega
      have hk0 : (0 : Int) ≤ (k : Int) := by omega
      obtain ⟨b, off, hAe, c0⟩ := text_cell (HA.out.keep (Nat.le_refl _) HB.out) hkz
      obtain ⟨s, hs⟩ : ∃ s, s = L[k] := ⟨_, rfl⟩
      rw [← hs] at c0
      have HS := Lib.hid hs
      obtain ⟨q, hq⟩ : ∃ q : Bool, q = true ↔ ¬ fitsT s := by
        by_cases h : fitsT s
        · exact ⟨false, by simp [h]⟩
        · exact ⟨true, by simp [h]⟩
      have HQ := Lib.hid hq
      clear hq hs
      subst hAe
      go_wp2_with fail
      refine (wrong_any s _ (by rw [HS.out]; exact HL.out _ (List.getElem_mem _)) q HQ.out).mono ?_
      rintro e w1 ⟨rfl, hB1⟩
      have HB1 := Lib.hid (bthen HB.out hB1)
      clear hB1 c0
      cases q with
      | true =>
        have HT := Lib.hid (show r = true from HR.out.2 ⟨s, by rw [HS.out]; exact List.getElem_mem _, HQ.out.1 rfl⟩)
        clear hlt
        go_wp2_with fail
        go_ret
        exact ⟨⟨k, rfl, fun _ => (by omega), fun h => (by rw [HT.out] at h; cases h)⟩, HB1.out⟩
      | false =>
        have hnm : fitsT s := by
          by_cases h : fitsT s
          · exact h
          · have := HQ.out.2 h; cases this
        have HK2 := Lib.hid (show ∀ (j : Nat) (h : j < L.length), j < k + 1 → fitsT L[j] from fun j h hj => by
          rcases Nat.lt_or_ge j k with e | e
          · exact HK.out j h e
          · obtain rfl : j = k := by omega
            rw [← HS.out]; exact hnm)
        clear hlt hnm
        go_wp2_with fail
        go_roundw
        case rel => exact ⟨k + 1, by omega, by go_num, HK2, HB1⟩
        case measure => simp [intOf]; omega
    · have hge : ¬ (k : Int) < (n : Int) := by omega
      have HT := Lib.hid (show r = false by
        cases r with
        | false => rfl
        | true =>
          obtain ⟨s, hs, hn⟩ := HR.out.1 rfl
          obtain ⟨j, hj, rfl⟩ := List.mem_iff_getElem.1 hs
          exact absurd (HK.out j hj (by have := HZ.out; omega)) hn)
      clear hlt
      go_wp2_with fail
      go_ret
      exact ⟨⟨-1, rfl, fun h => (by rw [HT.out] at h; cases h), fun _ => rfl⟩, HB.out⟩

set_option maxRecDepth 100000 in
set_option maxHeartbeats 4000000 in
theorem haswrong_any (A : Option Addr) (n c : Nat) (L : List ByteArray) (w : World) (hA : Row w A (texts L)) (hz : n = L.length) (hn : n ≤ 9223372036854775807) (hL : ∀ s ∈ L, s.size ≤ 9223372036854775807) (r : Bool) (hr : r = true ↔ ∃ s ∈ L, ¬ fitsT s) :
    Calls Try.prog 26 #[.slice A n c, .func (.func 25) #[] #[]] w fun e w' => e = .returned (.bool r) ∧ Below w.heap.size w w' := by
  have HA := Lib.hid hA
  have HZ := Lib.hid hz
  have HR := Lib.hid hr
  clear hA hz hr
  go_enter Try.func26, Try.ntmps26
  go_wp2_with fail
  refine (anywrong_any A n c L _ HA.out HZ.out hn hL r HR.out).mono ?_
  rintro e w1 ⟨⟨v, rfl, hv1, hv2⟩, hB⟩
  cases r with
  | true =>
    have h0 := hv1 rfl
    have d0 : decide (0 ≤ v) = true := by simpa using h0
    clear hv1 hv2
    go_wp2_with fail
    go_ret
    exact ⟨rfl, hB⟩
  | false =>
    obtain rfl : v = -1 := hv2 rfl
    clear hv1 hv2
    go_wp2_with fail
    go_ret
    exact ⟨rfl, hB⟩
end Go.Proofs.Ytgegmbkjkiifaaa
