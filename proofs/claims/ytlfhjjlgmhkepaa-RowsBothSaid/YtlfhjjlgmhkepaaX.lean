/- The document's Check and Subset. -/
import Derived.Test.YtlfhjjlgmhkepaaW
namespace Go.Proofs.Ytlfhjjlgmhkepaa
open Go.RowKit
set_option linter.unusedSimpArgs false
set_option linter.unusedVariables false
set_option maxRecDepth 100000 in
set_option maxHeartbeats 8000000 in
theorem refcheck_any (A B E F : Option Addr) (n c m d p q x y : Nat) (t : Int) (L M D : List ByteArray) (X : List Int) (w : World) (hE : Row w E (texts D)) (hF : Row w F (X.map (Value.int .i64))) (hn : n = L.length) (hm : m = M.length) (hp : p = D.length) (hx : x = X.length)
    (hD : ∀ s ∈ D, s.size ≤ 9223372036854775807) (hp2 : p ≤ 9223372036854775807) (hx2 : x ≤ 9223372036854775807) (v : Int) (hv : CheckIs L M D X t v) :
    Calls Try.prog 32 #[.agg #[.slice A n c, .slice B m d], .agg #[.int .i64 t, .slice E p q, .slice F x y]] w fun e w' => e = .returned (.int .i64 v) ∧ Below w.heap.size w w' := by
  have HD := Lib.hid hD
  have HN := Lib.hid hn
  have HM := Lib.hid hm
  have HP := Lib.hid hp
  have HX := Lib.hid hx
  have bel : ∀ o1 o2, Below w.heap.size w ((w.alloc o1).alloc o2) := fun o1 o2 => bthen (bpush (Below.refl _ _) _) (bpush (Below.refl _ _) _)
  obtain ⟨W1, hW1⟩ : ∃ W1, W1 = ((w.alloc (.cells #[.slice A n c, .slice B m d] 24)).alloc (.cells #[.int .i64 t, .slice E p q, .slice F x y] 30)) := ⟨_, rfl⟩
  have hb1 : Below w.heap.size w W1 := by rw [hW1]; exact bel _ _
  have HE := Lib.hid (hE.keep (Nat.le_refl _) hb1)
  have HF := Lib.hid (hF.keep (Nat.le_refl _) hb1)
  have c0 : W1.cell? ⟨w.heap.size + 1, 0, none⟩ = some (.int .i64 t) := by rw [hW1]; exact cell_made (by simp) rfl
  have c1 : W1.cell? ⟨w.heap.size + 1, 1, none⟩ = some (.slice E p q) := by rw [hW1]; exact cell_made (by simp) rfl
  have c2 : W1.cell? ⟨w.heap.size + 1, 2, none⟩ = some (.slice F x y) := by rw [hW1]; exact cell_made (by simp) rfl
  have HB1 := Lib.hid hb1
  have HW1 := Lib.hid hW1
  clear hE hF hD hn hm hp hx hW1 hb1
  rcases hv with ⟨h1, rfl⟩ | ⟨h1, h2, rfl⟩ | ⟨h1, h2, hv⟩
  · have d1 : ((p : Int) == (n : Int)) = false := by rw [beq_eq_false_iff_ne]; have := HN.out; have := HP.out; omega
    have d2 : ((p : Int) != (n : Int)) = true := by rw [bne, d1]; rfl
    clear h1 c0 c1 c2
    go_enter Try.func32, Try.ntmps32
    go_wp2_with fail
    go_ret
    exact ⟨rfl, bel _ _⟩
  · obtain rfl : p = n := by have := HN.out; have := HP.out; omega
    have d1 : ((x : Int) == (m : Int)) = false := by rw [beq_eq_false_iff_ne]; have := HM.out; have := HX.out; omega
    have d2 : ((x : Int) != (m : Int)) = true := by rw [bne, d1]; rfl
    clear h1 h2 c0 c1 c2
    go_enter Try.func32, Try.ntmps32
    go_wp2_with fail
    go_ret
    exact ⟨rfl, bel _ _⟩
  · obtain rfl : p = n := by have := HN.out; have := HP.out; omega
    obtain rfl : x = m := by have := HM.out; have := HX.out; omega
    have HV := Lib.hid hv
    clear h1 h2 hv
    go_enter Try.func32, Try.ntmps32
    go_wp2_with fail
    rw [← HW1.out]
    go_loop [5] (fun i => ∃ k : Nat, k ≤ p ∧ i = .int .i64 k ∧ Hid (∀ (j : Nat) (h : j < D.length), j < k → valP D[j])) (fun i => p - (intOf i).toNat)
    case atStart => exact ⟨0, Nat.zero_le _, rfl, Lib.hid (fun j _ h => by omega)⟩
    case round =>
      obtain ⟨k, hk, rfl, HK⟩ := hrel
      by_cases hlt : k < p
      · have hkz : k < D.length := by have := HP.out; omega
        have hki : (k : Int) < (p : Int) := by omega
        have hk0 : (0 : Int) ≤ (k : Int) := by omega
        obtain ⟨b, off, hAe, cc⟩ := text_cell HE.out hkz
        obtain ⟨s, hs⟩ : ∃ s, s = D[k] := ⟨_, rfl⟩
        rw [← hs] at cc
        have HS := Lib.hid hs
        obtain ⟨r, hr⟩ := bool_of (valP s)
        have HR := Lib.hid hr
        subst hAe
        clear hr hs
        go_wp2_with fail
        refine (refvalue_any s _ (by rw [HS.out]; exact HD.out _ (List.getElem_mem _)) r HR.out).mono ?_
        rintro e w3 ⟨rfl, rfl⟩
        cases r with
        | false =>
          have hnv : ¬ valP s := fun h => by have := HR.out.2 h; cases this
          obtain rfl : v = 102 := by
            rcases HV.out with ⟨_, h⟩ | ⟨_, _, h⟩ | ⟨h, _⟩
            · exact h
            · exact h
            · exact absurd (h s (by rw [HS.out]; exact List.getElem_mem _)) hnv
          clear hlt hnv
          go_wp2_with fail
          go_ret
          exact ⟨rfl, HB1.out⟩
        | true =>
          have HK2 := Lib.hid (show ∀ (j : Nat) (h : j < D.length), j < k + 1 → valP D[j] from fun j h hj => by
            rcases Nat.lt_or_ge j k with e | e
            · exact HK.out j h e
            · obtain rfl : j = k := by omega
              rw [← HS.out]; exact HR.out.1 rfl)
          clear hlt
          go_wp2_with fail
          go_round
          case rel => exact ⟨k + 1, by omega, by go_num, HK2⟩
          case measure => simp [intOf]; omega
      · have hge : ¬ (k : Int) < (p : Int) := by omega
        have HAV := Lib.hid (show ∀ s ∈ D, valP s from fun s hs => by
          obtain ⟨j, hj, rfl⟩ := List.mem_iff_getElem.1 hs
          exact HK.out j hj (by have := HP.out; omega))
        have HV2 := Lib.hid (show (∃ x ∈ X, greatZ x) ∧ v = 102 ∨ (∀ x ∈ X, ¬ greatZ x) ∧ ((t < 0 ∧ v = 181) ∨ (1099511627776 < t ∧ v = 181) ∨ (0 ≤ t ∧ t ≤ 1099511627776 ∧ v = 0)) by
          rcases HV.out with ⟨⟨s, hs, h⟩, _⟩ | ⟨_, h1, h⟩ | ⟨_, h1, h⟩
          · exact absurd (HAV.out s hs) h
          · exact .inl ⟨h1, h⟩
          · exact .inr ⟨h1, h⟩)
        clear hlt
        go_wp2_with fail
        go_loop [7] (fun i => ∃ k : Nat, k ≤ x ∧ i = .int .i64 k ∧ Hid (∀ (j : Nat) (h : j < X.length), j < k → ¬ greatZ X[j])) (fun i => x - (intOf i).toNat)
        case atStart => exact ⟨0, Nat.zero_le _, rfl, Lib.hid (fun j _ h => by omega)⟩
        case round =>
          obtain ⟨j, hj, rfl, HJ⟩ := hrel
          by_cases hlt : j < x
          · have hjz : j < X.length := by have := HX.out; omega
            have hji : (j : Int) < (x : Int) := by omega
            have hj0 : (0 : Int) ≤ (j : Int) := by omega
            obtain ⟨b, off, hAe, cc⟩ := Row.cell HF.out hjz
            obtain ⟨s, hs⟩ : ∃ s, s = X[j] := ⟨_, rfl⟩
            rw [← hs] at cc
            have HS := Lib.hid hs
            subst hAe
            clear hs
            have HG := Lib.hid (show greatZ s → v = 102 from fun h => by
              rcases HV2.out with ⟨_, e⟩ | ⟨h1, _⟩
              · exact e
              · exact absurd h (h1 s (by rw [HS.out]; exact List.getElem_mem _)))
            by_cases h1 : s < -4611686018427387904
            · obtain rfl : v = 102 := HG.out (.inl h1)
              clear hlt
              go_wp2_with fail
              go_ret
              exact ⟨rfl, HB1.out⟩
            have d1 : decide (s < -4611686018427387904) = false := by simp; omega
            by_cases h2 : 4611686018427387904 < s
            · obtain rfl : v = 102 := HG.out (.inr h2)
              have d2 : decide (4611686018427387904 < s) = true := by simp; omega
              clear hlt h1 h2
              go_wp2_with fail
              go_ret
              exact ⟨rfl, HB1.out⟩
            have d2 : decide (4611686018427387904 < s) = false := by simp; omega
            have HJ2 := Lib.hid (show ∀ (i : Nat) (h : i < X.length), i < j + 1 → ¬ greatZ X[i] from fun i h hi => by
              rcases Nat.lt_or_ge i j with e | e
              · exact HJ.out i h e
              · obtain rfl : i = j := by omega
                rw [← HS.out]; unfold greatZ; omega)
            clear hlt h1 h2
            go_wp2_with fail
            go_round
            case rel => exact ⟨j + 1, by omega, by go_num, HJ2⟩
            case measure => simp [intOf]; omega
          · have hge2 : ¬ (j : Int) < (x : Int) := by omega
            have HV3 := Lib.hid (show ((t < 0 ∧ v = 181) ∨ (1099511627776 < t ∧ v = 181) ∨ (0 ≤ t ∧ t ≤ 1099511627776 ∧ v = 0)) by
              rcases HV2.out with ⟨⟨z, hz, h⟩, _⟩ | ⟨_, h⟩
              · obtain ⟨i, hi, rfl⟩ := List.mem_iff_getElem.1 hz
                exact absurd h (HJ.out i hi (by have := HX.out; omega))
              · exact h)
            clear hlt
            rcases HV3.out with ⟨h5, rfl⟩ | ⟨h5, rfl⟩ | ⟨h5, h6, rfl⟩
            · go_wp2_with fail
              go_ret
              exact ⟨rfl, HB1.out⟩
            · have h6 : ¬ t < 0 := by omega
              go_wp2_with fail
              go_ret
              exact ⟨rfl, HB1.out⟩
            · have h7 : ¬ t < 0 := by omega
              have h8 : ¬ 1099511627776 < t := by omega
              go_wp2_with fail
              go_ret
              exact ⟨rfl, HB1.out⟩
end Go.Proofs.Ytlfhjjlgmhkepaa
