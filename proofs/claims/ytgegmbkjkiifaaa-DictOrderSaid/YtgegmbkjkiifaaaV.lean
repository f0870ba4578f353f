/- DictOrder's walk. -/
import Derived.Test.YtgegmbkjkiifaaaU
import Derived.Test.YtgegmbkjkiifaaaN
import Derived.Deep.RegionHeld3
import Derived.Deep.QuietTactic
import Derived.BigQuiet
namespace Go.Proofs.Ytgegmbkjkiifaaa
open Go.RowKit Go.Lib
set_option linter.unusedSimpArgs false
set_option linter.unusedVariables false
theorem upto_own {D : List ByteArray} (hr : rising D) (k : Nat) (hk : k < D.length) : upto D D[k] = k := by
  have h1 : ¬ k < upto D D[k] := fun h => lt_irr _ ((upto_spec hr D[k] k hk).2 h)
  rcases Nat.lt_or_ge (upto D D[k]) k with h | h
  · exact absurd ((upto_spec hr D[k] (upto D D[k]) (by omega)).1 (rising_lt hr h hk)) (by omega)
  · omega
theorem not_leq {a b : ByteArray} (h : ltT b a) : (Op.bytesLess a.toList b.toList || a.toList == b.toList) = false := by
  rw [less_bool, decide_eq_false (lt_asy h), str_ne (fun e => lt_irr _ (e ▸ h))]
  rfl
theorem TextsPost_eq (w : World) (D : List ByteArray) : TextsPost w D = fun e w' => ∃ A c, e = .returned (.slice A D.length c) ∧ Row w' A (texts D) ∧ D.length ≤ c ∧ (A = none → c = 0) ∧ Below w.heap.size w w' := rfl
set_option maxRecDepth 100000 in
set_option maxHeartbeats 16000000 in
theorem order_walk (A : Option Addr) (n c : Nat) (L : List ByteArray) (w : World) (hA : Row w A (texts L)) (hn : n = L.length) (hn2 : n * 16 ≤ 140737488351232) (hL : ∀ s ∈ L, s.size ≤ 9223372036854775807) :
    Calls Try.prog 5 #[.slice A n c] w fun e w' => e = .returned (.bool true) ∧ Below w.heap.size w w' := by
  have HA := Lib.hid hA
  have HN := Lib.hid hn
  have HL := Lib.hid hL
  obtain ⟨f, hf⟩ := bool_of (fits6P L)
  have HF := Lib.hid hf
  clear hA hn hL hf
  go_enter Try.func5, Try.ntmps5
  go_wp2_with fail
  refine (fits_any A n c L _ HA.out HN.out (by omega) f HF.out).mono ?_
  rintro e w1 ⟨rfl, rfl⟩
  go_wp2_with fail
  refine (new_any A n c L _ HA.out HN.out (by omega) HL.out).mono ?_
  rintro e w1 h
  rcases h with ⟨hgood, p, rfl, hp, hb⟩ | ⟨_, rfl, hb⟩
  case inr =>
    have HB := Lib.hid hb
    clear hb
    cases f with
    | false =>
      go_wp2_with fail
      refine (alive_any _).mono ?_
      rintro e w2 ⟨rfl, hb⟩
      go_wp2_with fail
      go_ret
      exact ⟨rfl, bthen HB.out hb⟩
    | true =>
      go_wp2_with fail
      refine (alive_any _).mono ?_
      rintro e w2 ⟨rfl, hb⟩
      go_wp2_with fail
      go_ret
      exact ⟨rfl, bthen HB.out hb⟩
  case inl =>
    have HB := Lib.hid hb
    have HP := Lib.hid hp
    have HG := Lib.hid hgood
    clear hb hp hgood
    cases f with
    | false =>
      go_wp2_with fail
      refine (alive_any _).mono ?_
      rintro e w2 ⟨rfl, hb⟩
      go_wp2_with fail
      go_ret
      exact ⟨rfl, bthen HB.out hb⟩
    | true =>
      have HFF := Lib.hid (HF.out.1 rfl)
      obtain ⟨D, hD⟩ : ∃ D, D = dictL L := ⟨_, rfl⟩
      rw [← hD] at HP
      have HD := Lib.hid hD
      have HR := Lib.hid (show rising D by rw [hD]; exact dictL_rising L)
      have HFT := Lib.hid (show ∀ s ∈ D, fitsT s by rw [hD]; intro s hs; exact HG.out.1 s ((dictL_mem L s).1 hs))
      have HMEM := Lib.hid (show ∀ s ∈ L, s ∈ D by rw [hD]; intro s hs; exact (dictL_mem L s).2 hs)
      have HLE := Lib.hid (show D.length ≤ 100 by rw [hD]; have h1 := dictL_len L; have h2 := HFF.out.1; omega)
      have hn100 : n ≤ 100 := by have h2 := HFF.out.1; have := HN.out; omega
      clear hD
      go_wp2_with fail
      refine (texts_any p D _ HP.out (by have := HLE.out; omega)).mono ?_
      rintro e w2 ⟨B, cB, rfl, hB, hcB, hB0, hb⟩
      obtain ⟨m, hm⟩ : ∃ m, m = D.length := ⟨_, rfl⟩
      have HM := Lib.hid hm
      have hm100 : m ≤ 100 := by have := HLE.out; omega
      rw [← hm]
      have HB2 := Lib.hid (bthen HB.out hb)
      have HP2 := Lib.hid (HP.out.keep hb)
      have HA2 := Lib.hid (HA.out.keep (Nat.le_refl _) (bthen HB.out hb))
      have HBR := Lib.hid hB
      have HL62 := Lib.hid (show D.length ≤ 4611686018427387903 by have := HLE.out; omega)
      clear hm hb hB hcB hB0
      go_wp2_with fail
      go_loopw [7, 8, 9] (fun i b d wr => ∃ k : Nat, k ≤ m ∧ i = .int .i64 k ∧ Hid (Below w.heap.size w wr) ∧ Hid (Below w2.heap.size w2 wr)) (fun i _ _ _ => m - (intOf i).toNat)
      case atStart => exact ⟨0, Nat.zero_le _, rfl, HB2, Lib.hid (Below.refl _ _)⟩
      case round =>
        obtain ⟨k, hk, rfl, HB3, HBW⟩ := hrel
        have HP3 := Lib.hid (HP2.out.keep HBW.out)
        have HBR3 := Lib.hid (HBR.out.keep (Nat.le_refl _) HBW.out)
        by_cases hlt : k < m
        · have hkz : k < D.length := by have := HM.out; omega
          have hki : (k : Int) < (m : Int) := by omega
          have hk0 : (0 : Int) ≤ (k : Int) := by omega
          obtain ⟨b, off, hBe, c0⟩ := text_cell HBR3.out hkz
          have HU := Lib.hid (upto_own HR.out k hkz)
          obtain ⟨x, hx⟩ : ∃ x, x = D[k] := ⟨_, rfl⟩
          have HX := Lib.hid (show x ∈ D by rw [hx]; exact List.getElem_mem hkz)
          rw [← hx] at c0 HU
          subst hBe
          by_cases h0 : 0 < k
          · have hkz1 : k - 1 < D.length := by omega
            obtain ⟨b', off', hBe', c1⟩ := text_cell HBR3.out hkz1
            simp at hBe'
            obtain ⟨rfl, rfl⟩ := hBe'
            obtain ⟨y, hy⟩ : ∃ y, y = D[k-1] := ⟨_, rfl⟩
            rw [← hy] at c1
            have hlq := not_leq (show ltT y x by rw [hx, hy]; exact rising_lt HR.out (by omega) hkz)
            clear hx hy
            have d0 : decide ((0 : Int) < (k : Int)) = true := by simp; omega
            have dn0 : decide (0 < k) = true := by simp; omega
            have e1 : IntKind.i64.wrap ((k : Int) - 1) = (k : Int) - 1 := IntWalk.i64_in _ (by omega)
            have e2 : (0 : Int) ≤ (k : Int) - 1 := by omega
            have e3 : ((k : Int) - 1).toNat = k - 1 := by omega
            have e4 : (k : Int) - 1 < (m : Int) := by omega
            clear hlt h0
            go_wp2_with fail
            refine (find_any p D x _ HP3.out HL62.out HR.out true ⟨fun _ => HX.out, fun _ => rfl⟩).mono ?_
            rw [HU.out]
            rintro e w4 ⟨rfl, rfl⟩
            have HQ := Lib.hid (show ∀ z, Calls Try.prog 17 #[p, .string x] (wr.drewN z) fun e w' => e = .returned (.int .i64 (k : Nat)) ∧ w' = wr.drewN z from (fun z => by have h := upto_any p D x (wr.drewN z) (HP3.out.keep (below_drewN (Below.refl _ _) z)) HL62.out HR.out; rw [HU.out] at h; exact h.mono fun _ _ h => ⟨h.1, h.2.symm⟩))
            go_wp2_with fail
            go_quiet ((go_at_call 17; exact Calls.quiet_of_same (HQ.out _)))
            go_wp2
            go_roundw
            case rel => exact ⟨k + 1, by omega, by go_num, Lib.hid (below_drewN HB3.out _), Lib.hid (below_drewN HBW.out _)⟩
            case measure => simp [intOf]; omega
          · have d0 : decide ((0 : Int) < (k : Int)) = false := by simp; omega
            have dn0 : decide (0 < k) = false := by simp; omega
            clear hlt h0 hx
            go_wp2_with fail
            refine (find_any p D x _ HP3.out HL62.out HR.out true ⟨fun _ => HX.out, fun _ => rfl⟩).mono ?_
            rw [HU.out]
            rintro e w4 ⟨rfl, rfl⟩
            have HQ := Lib.hid (show ∀ z, Calls Try.prog 17 #[p, .string x] (wr.drewN z) fun e w' => e = .returned (.int .i64 (k : Nat)) ∧ w' = wr.drewN z from (fun z => by have h := upto_any p D x (wr.drewN z) (HP3.out.keep (below_drewN (Below.refl _ _) z)) HL62.out HR.out; rw [HU.out] at h; exact h.mono fun _ _ h => ⟨h.1, h.2.symm⟩))
            go_wp2_with fail
            go_quiet ((go_at_call 17; exact Calls.quiet_of_same (HQ.out _)))
            go_wp2
            go_roundw
            case rel => exact ⟨k + 1, by omega, by go_num, Lib.hid (below_drewN HB3.out _), Lib.hid (below_drewN HBW.out _)⟩
            case measure => simp [intOf]; omega
        · have hd : decide ((k : Int) < (m : Int)) = false := by simp; omega
          have hd2 : decide (k < m) = false := by simp; omega
          have HA3 := Lib.hid (HA2.out.keep (Nat.le_refl _) HBW.out)
          clear hlt
          go_wp2_with fail
          go_loopw [10, 11, 12] (fun i b d wq => ∃ k : Nat, k ≤ n ∧ i = .int .i64 k ∧ wq = wr) (fun i _ _ _ => n - (intOf i).toNat)
          case atStart => exact ⟨0, Nat.zero_le _, rfl, rfl⟩
          case round =>
            obtain ⟨j, hj, rfl, rfl⟩ := hrel
            by_cases hlt : j < n
            · have hjz : j < L.length := by have := HN.out; omega
              have hji : (j : Int) < (n : Int) := by omega
              have hj0 : (0 : Int) ≤ (j : Int) := by omega
              obtain ⟨b, off, hAe, c0⟩ := text_cell HA3.out hjz
              obtain ⟨x, hx⟩ : ∃ x, x = L[j] := ⟨_, rfl⟩
              have HX := Lib.hid (show x ∈ D from HMEM.out x (by rw [hx]; exact List.getElem_mem hjz))
              rw [← hx] at c0
              subst hAe
              clear hx hlt
              go_wp2_with fail
              refine (find_any p D x _ HP3.out HL62.out HR.out true ⟨fun _ => HX.out, fun _ => rfl⟩).mono ?_
              obtain ⟨u, hu⟩ : ∃ u, u = upto D x := ⟨_, rfl⟩
              rw [← hu]
              clear hu
              rintro e w4 ⟨rfl, rfl⟩
              go_wp2_with fail
              go_roundw
              case rel => exact ⟨j + 1, by omega, by go_num, by first | rfl | trivial⟩
              case measure => simp [intOf]; omega
            · have hd3 : decide ((j : Int) < (n : Int)) = false := by simp; omega
              have hd4 : decide (j < n) = false := by simp; omega
              clear hlt
              go_wp2_with fail
              refine (bytes_any p D _ HP3.out (by have := HLE.out; omega) (fun s hs => by have := (HFT.out s hs).2; omega)).mono ?_
              rintro e w5 ⟨A5, c5, rfl, hrow, _, _, hb⟩
              have HB5 := Lib.hid (bthen HB3.out hb)
              have HBR5 := Lib.hid (HBR3.out.keep (Nat.le_refl _) hb)
              have HROW := Lib.hid hrow
              clear hrow hb
              go_wp2_with fail
              refine (parse_back A5 _ c5 D _ HROW.out rfl HR.out HFT.out HLE.out).mono ?_
              rintro e w6 ⟨p6, rfl, hp6, hb⟩
              have HB6 := Lib.hid (bthen HB5.out hb)
              have HBR6 := Lib.hid (HBR5.out.keep (Nat.le_refl _) hb)
              have HP6 := Lib.hid hp6
              clear hp6 hb
              go_wp2_with fail
              refine (alive_any _).mono ?_
              rintro e w7 ⟨rfl, hb⟩
              have HB7 := Lib.hid (bthen HB6.out hb)
              have HBR7 := Lib.hid (HBR6.out.keep (Nat.le_refl _) hb)
              have HP7 := Lib.hid (HP6.out.keep hb)
              clear hb
              go_wp2_with fail
              refine (texts_any p6 D _ HP7.out (by have := HLE.out; omega)).mono ?_
              rw [TextsPost_eq, ← HM.out]
              rintro e w8 ⟨A8, c8, rfl, hrow, _, _, hb⟩
              have HB8 := Lib.hid (bthen HB7.out hb)
              have HBR8 := Lib.hid (HBR7.out.keep (Nat.le_refl _) hb)
              have HROW8 := Lib.hid hrow
              clear hrow hb
              go_wp2_with fail
              refine (sametexts_any A8 B m c8 m cB D D _ HROW8.out HBR8.out HM.out HM.out (by omega) (by omega) true ⟨fun _ => rfl, fun _ => rfl⟩).mono ?_
              rintro e w9 ⟨rfl, hb⟩
              have HB9 := Lib.hid (bthen HB8.out hb)
              clear hb
              go_wp2_with fail
              go_ret
              exact ⟨rfl, HB9.out⟩
end Go.Proofs.Ytgegmbkjkiifaaa
