/- The document's Right. -/
import Derived.Test.YtlfhjjlgmhkepaaV
namespace Go.Proofs.Ytlfhjjlgmhkepaa
open Go.RowKit
set_option linter.unusedSimpArgs false
set_option linter.unusedVariables false
set_option maxRecDepth 100000 in
set_option maxHeartbeats 8000000 in
theorem refright_any (A B : Option Addr) (n c m d : Nat) (L M : List ByteArray) (w : World) (hA : Row w A (texts L)) (hB : Row w B (texts M)) (hn : n = L.length) (hm : m = M.length) (hnc : n ≤ c) (hmd : m ≤ d) (ha : A = none → c = 0) (hb : B = none → d = 0)
    (hL : ∀ s ∈ L, s.size ≤ 9223372036854775807) (hM : ∀ s ∈ M, s.size ≤ 9223372036854775807) (hn2 : n ≤ 20) (hm2 : m * 16 ≤ 140737488351232) (r : Bool) (hr : r = true ↔ rightP L M) :
    Calls Try.prog 27 #[.agg #[.slice A n c, .slice B m d]] w fun e w' => e = .returned (.bool r) ∧ Below w.heap.size w w' := by
  have HN := Lib.hid hn
  have HM := Lib.hid hm
  have Ha := Lib.hid ha
  have Hb := Lib.hid hb
  have HR := Lib.hid hr
  have HL := Lib.hid (show ∀ s ∈ L ++ M, s.size ≤ 9223372036854775807 from fun s hs => (List.mem_append.1 hs).elim (hL s) (hM s))
  have HF := Lib.hid (show ¬ rightP L M → r = false from fun h => by
    cases r with
    | false => rfl
    | true => exact absurd (hr.1 rfl) h)
  obtain ⟨W0, hW0⟩ : ∃ W0, W0 = w.alloc (.cells #[.slice A n c, .slice B m d] 24) := ⟨_, rfl⟩
  have hb0 : Below w.heap.size w W0 := by rw [hW0]; exact bpush (Below.refl _ _) _
  have g0 : W0.cell? ⟨w.heap.size, 0, none⟩ = some (.slice A n c) := by rw [hW0]; simp
  have j0 : W0.cell? ⟨w.heap.size, 1, none⟩ = some (.slice B m d) := by rw [hW0]; simp
  have hbig : w.heap.size + 1 = W0.heap.size := by rw [hW0]; simp
  have HBIG := Lib.hid hbig
  have HW0 := Lib.hid hW0
  have HB := Lib.hid hb0
  have HA0 := Lib.hid (hA.keep (Nat.le_refl _) hb0)
  have HB0 := Lib.hid (hB.keep (Nat.le_refl _) hb0)
  clear hW0 hb0 hA hB hn hm ha hb hL hM hr hbig
  go_enter Try.func27, Try.ntmps27
  go_wp2_with fail
  rw [← HW0.out]
  go_region_held3 (fun w' => (w'.cell? ⟨w.heap.size, 0, none⟩ = some (.slice A n c) ∧ w'.cell? ⟨w.heap.size, 1, none⟩ = some (.slice B m d)) ∧ Below W0.heap.size W0 w')
    (first
      | exact ⟨⟨g0, j0⟩, below_drewN (Below.refl _ _) 1⟩
      | exact ⟨⟨cell_on (below_drewN (bpush (Below.refl _ _) _) 1) g0, cell_on (below_drewN (bpush (Below.refl _ _) _) 1) j0⟩, below_drewN (bpush (Below.refl _ _) _) 1⟩
      | exact ⟨⟨cell_on hbz2 g0, cell_on hbz2 j0⟩, hbz2⟩
      | exact ⟨⟨cell_on hbz g0, cell_on hbz j0⟩, hbz⟩)
    (first
      | (refine step_append_texts rfl _ _ rfl W0.heap.size (.slice (some ⟨W0.heap.size, 0, none⟩) 0 0) 0 [] rfl A n c L rfl ?own ?row HN.out hnc Ha.out ?q1 ?q2 ?_
         case own => exact own_dr (own_empty (Nat.le_refl _)) 1
         case row => exact row_dr (HA0.out.keep (Nat.le_refl _) (bpush (Below.refl _ _) _)) 1
         case q1 => omega
         case q2 => simp
         intro v1 w1 ho1 hg1 _
         have hbz : Below W0.heap.size W0 w1 := (below_drewN (bpush (Below.refl _ _) _) 1).trans (grown_below (own_dr (own_empty (Nat.le_refl _)) 1) hg1 (by simp)))
      | (refine step_append_texts rfl _ _ rfl W0.heap.size v1 (0 + n) ([] ++ texts L) rfl B m d M rfl ho1 ?row HM.out hmd Hb.out ?q1 ?q2 ?_
         case row => exact HB0.out.keep (Nat.le_refl _) hbz
         case q1 => omega
         case q2 => exact hbz.size
         intro v2 w2 ho2 hg2 _
         have hbz2 : Below W0.heap.size W0 w2 := hbz.trans (grown_below ho1 hg2 hbz.size)))
  obtain ⟨A3, c3, rfl, hr3, hc3, _⟩ := own_slice ho2
  have HR3 := Lib.hid (show Row w2 A3 (texts (L ++ M)) by rw [List.nil_append, texts_append] at hr3; exact hr3)
  obtain ⟨⟨k0, k1⟩, _⟩ : (w2.cell? ⟨w.heap.size, 0, none⟩ = some (.slice A n c) ∧ w2.cell? ⟨w.heap.size, 1, none⟩ = some (.slice B m d)) ∧ Below W0.heap.size W0 w2 := by assumption
  obtain ⟨t, ht⟩ : ∃ t, t = 0 + n + m := ⟨_, rfl⟩
  have HT := Lib.hid (show t = (L ++ M).length by rw [List.length_append, ← HN.out, ← HM.out, ht]; omega)
  have ht2 : t ≤ 9223372036854775807 := by omega
  have HBZ := Lib.hid hbz2
  rw [← ht] at hc3 ⊢
  obtain ⟨U, hU⟩ : ∃ U, U = L ++ M := ⟨_, rfl⟩
  rw [← hU] at HR3 HT HL
  have HU := Lib.hid hU
  clear ho1 hg1 ho2 hg2 hbz hbz2 hr3 g0 j0 ht hU
  go_wp2_with fail
  go_loopw [4] (fun i wr => ∃ k : Nat, k ≤ t ∧ i = .int .i64 k ∧ Hid (Below w2.heap.size w2 wr) ∧ Hid (∀ (j : Nat) (h : j < U.length), j < k → nameP U[j]) ∧ Hid (∀ (i j : Nat) (hij : i < j) (h : j < U.length), j < k → U[i]'(Nat.lt_trans hij h) ≠ U[j])) (fun i _ => t - (intOf i).toNat)
  case atStart => exact ⟨0, Nat.zero_le _, rfl, Lib.hid (Below.refl _ _), Lib.hid (fun j _ h => by omega), Lib.hid (fun i j _ _ h => by omega)⟩
  case round =>
    obtain ⟨k, hk, rfl, HBW, HK1, HK2⟩ := hrel
    by_cases hlt : k < t
    · have hkz : k < U.length := by have := HT.out; omega
      have hki : (k : Int) < (t : Int) := by omega
      have hk0 : (0 : Int) ≤ (k : Int) := by omega
      obtain ⟨b, off, hAe, c0⟩ := text_cell (HR3.out.keep (Nat.le_refl _) HBW.out) hkz
      obtain ⟨s, hs⟩ : ∃ s, s = U[k] := ⟨_, rfl⟩
      rw [← hs] at c0
      have HS := Lib.hid hs
      obtain ⟨q, hq⟩ := bool_of (nameP s)
      have HQ := Lib.hid hq
      subst hAe
      clear hq hs
      go_wp2_with fail
      refine (refname_any s _ (by rw [HS.out]; exact HL.out _ (List.getElem_mem _)) q HQ.out).mono ?_
      rintro e w3 ⟨rfl, hb3⟩
      have HB3 := Lib.hid (bthen HBW.out hb3)
      have c1 := cell_on hb3 c0
      clear hb3 c0
      cases q with
      | false =>
        obtain rfl : r = false := HF.out fun h => by
          have := h.2.2.2.1 s (by rw [HS.out, ← HU.out]; exact List.getElem_mem _)
          have := HQ.out.2 this; cases this
        clear hlt
        go_wp2_with fail
        go_ret
        exact ⟨rfl, bthen HB.out (bthen HBZ.out HB3.out)⟩
      | true =>
        have HNM := Lib.hid (HQ.out.1 rfl)
        go_wp2_with fail
        go_loopw [6] (fun i wr' => ∃ p : Nat, p ≤ k ∧ i = .int .i64 p ∧ Hid (Below w3.heap.size w3 wr') ∧ Hid (∀ (j : Nat) (h : j < k), U[j] ≠ s ∨ p ≤ j)) (fun i _ => k - (intOf i).toNat)
        case atStart => exact ⟨0, Nat.zero_le _, rfl, Lib.hid (Below.refl _ _), Lib.hid (fun j _ => .inr (Nat.zero_le _))⟩
        case round =>
          obtain ⟨p, hp, rfl, HBP, HPP⟩ := hrel
          by_cases hpk : p < k
          · have hpz : p < U.length := by omega
            have hpi : (p : Int) < (k : Int) := by omega
            have hpt : (p : Int) < (t : Int) := by omega
            have hp0 : (0 : Int) ≤ (p : Int) := by omega
            obtain ⟨b', off', he, cp⟩ := text_cell (HR3.out.keep (Nat.le_refl _) (HB3.out.trans (HBP.out.mono HB3.out.size))) hpz
            cases he
            have ck := cell_on HBP.out c1
            obtain ⟨x, hx⟩ : ∃ x, x = U[p] := ⟨_, rfl⟩
            rw [← hx] at cp
            have HX := Lib.hid hx
            clear hx c1
            by_cases hxs : x = s
            · subst hxs
              obtain rfl : r = false := HF.out fun h => by
                have := h.2.2.2.2 p k hpk (by rw [← HU.out]; exact hkz)
                have e1 := HX.out
                have e2 := HS.out
                have e3 := HU.out
                subst e3
                exact this (e1.symm.trans e2)
              clear hlt hpk
              go_wp2_with fail
              go_quiet (fail)
              go_wp2_with fail
              go_ret
              exact ⟨rfl, below_drewN (bthen HB.out (bthen HBZ.out (bthen HB3.out HBP.out))) _⟩
            · have hne := str_ne hxs
              have HP2 := Lib.hid (show ∀ (j : Nat) (h : j < k), U[j] ≠ s ∨ p + 1 ≤ j from fun j h => by
                rcases HPP.out j h with e | e
                · exact .inl e
                · rcases Nat.eq_or_lt_of_le e with e | e
                  · subst e; exact .inl (by rw [← HX.out]; exact hxs)
                  · exact .inr e)
              clear hlt hpk hxs
              go_wp2_with fail
              go_quiet (fail)
              go_wp2_with fail
              go_roundw
              case rel => exact ⟨p + 1, by omega, by go_num, Lib.hid (below_drewN HBP.out _), HP2⟩
              case measure => simp [intOf]; omega
          · have hge : ¬ (p : Int) < (k : Int) := by omega
            have HK1' := Lib.hid (show ∀ (j : Nat) (h : j < U.length), j < k + 1 → nameP U[j] from fun j h hj => by
              rcases Nat.lt_or_ge j k with e | e
              · exact HK1.out j h e
              · obtain rfl : j = k := by omega
                rw [← HS.out]; exact HNM.out)
            have HK2' := Lib.hid (show ∀ (i j : Nat) (hij : i < j) (h : j < U.length), j < k + 1 → U[i]'(Nat.lt_trans hij h) ≠ U[j] from fun i j hij h hj => by
              rcases Nat.lt_or_ge j k with e | e
              · exact HK2.out i j hij h e
              · obtain rfl : j = k := by omega
                rcases HPP.out i hij with e | e
                · rw [← HS.out]; exact e
                · omega)
            have HBN := Lib.hid (HB3.out.trans (HBP.out.mono HB3.out.size))
            clear hlt hpk c1
            go_wp2_with fail
            go_roundw
            case rel => exact ⟨k + 1, by omega, by go_num, HBN, HK1', HK2'⟩
            case measure => simp [intOf]; omega
    · have hge : ¬ (k : Int) < (t : Int) := by omega
      have HNP := Lib.hid (show namesP (L ++ M) by
        rw [← HU.out]
        exact ⟨fun s hs => by
          obtain ⟨j, hj, rfl⟩ := List.mem_iff_getElem.1 hs
          exact HK1.out j hj (by have := HT.out; omega), fun i j hij h => HK2.out i j hij h (by have := HT.out; omega)⟩)
      have l0 := cell_on HBW.out k0
      have l1 := cell_on HBW.out k1
      have HBE := Lib.hid (show Below w.heap.size w wr from HB.out.trans ((HBZ.out.trans (HBW.out.mono HBZ.out.size)).mono (by have := HBIG.out; omega)))
      clear k0 k1 hlt
      by_cases h1 : 1 ≤ n
      · have d1 : decide ((1 : Int) ≤ (n : Int)) = true := by simp; omega
        by_cases h2 : n ≤ 6
        · have d2 : decide ((n : Int) ≤ 6) = true := by simp; omega
          by_cases h3 : m ≤ 4
          · have d3 : decide ((m : Int) ≤ 4) = true := by simp; omega
            obtain rfl : r = true := HR.out.2 ⟨by rw [← HN.out]; exact h1, by rw [← HN.out]; exact h2, by rw [← HM.out]; exact h3, HNP.out⟩
            clear h1 h2 h3
            go_wp2_with fail
            go_ret
            exact ⟨rfl, HBE.out⟩
          · have d3 : decide ((m : Int) ≤ 4) = false := by simp; omega
            obtain rfl : r = false := HF.out fun h => h3 (by have := h.2.2.1; rw [HM.out]; exact this)
            clear h1 h2 h3
            go_wp2_with fail
            go_ret
            exact ⟨rfl, HBE.out⟩
        · have d2 : decide ((n : Int) ≤ 6) = false := by simp; omega
          obtain rfl : r = false := HF.out fun h => h2 (by have := h.2.1; rw [HN.out]; exact this)
          clear h1 h2
          go_wp2_with fail
          go_ret
          exact ⟨rfl, HBE.out⟩
      · have d1 : decide ((1 : Int) ≤ (n : Int)) = false := by simp; omega
        obtain rfl : r = false := HF.out fun h => h1 (by have := h.1; rw [HN.out]; exact this)
        clear h1
        go_wp2_with fail
        go_ret
        exact ⟨rfl, HBE.out⟩
end Go.Proofs.Ytlfhjjlgmhkepaa
