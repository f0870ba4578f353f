/- DictNil's walk. -/
import Derived.Test.YtgegmbkjkiifaaaK
namespace Go.Proofs.Ytgegmbkjkiifaaa
open Go.RowKit Go.Lib
set_option linter.unusedSimpArgs false
set_option linter.unusedVariables false
theorem nil_bytes : strOfNums (bytesD []) = ⟨#[0]⟩ := by decide +kernel
set_option maxRecDepth 100000 in
set_option maxHeartbeats 8000000 in
theorem nil_walk (A : Option Addr) (n c : Nat) (L : List ByteArray) (s : ByteArray) (w : World) (hA : Row w A (texts L)) (hn : n = L.length) (hn2 : n * 16 ≤ 140737488351232) (hL : ∀ s ∈ L, s.size ≤ 9223372036854775807) :
    Calls Try.prog 6 #[.slice A n c, .string s] w fun e w' => e = .returned (.bool true) ∧ Below w.heap.size w w' := by
  have HA := Lib.hid hA
  have HN := Lib.hid hn
  have HL := Lib.hid hL
  obtain ⟨f, hf⟩ := bool_of (fits6P L)
  have HF := Lib.hid hf
  obtain ⟨z, hz⟩ : ∃ z, s.size = z := ⟨_, rfl⟩
  clear hA hn hL hf
  go_enter Try.func6, Try.ntmps6
  go_wp2_with fail
  refine (fits_any A n c L _ HA.out HN.out (by omega) f HF.out).mono ?_
  rintro e w1 ⟨rfl, rfl⟩
  go_wp2_with fail
  refine (new_any A n c L _ HA.out HN.out (by omega) HL.out).mono ?_
  rintro e w1 h
  rcases h with ⟨hgood, p, rfl, hp, hb⟩ | ⟨_, rfl, hb⟩
  case inr =>
    have HB := Lib.hid hb
    clear hb
    cases f with
    | false =>
      go_wp2_with fail
      refine (alive_any _).mono ?_
      rintro e w2 ⟨rfl, hb⟩
      go_wp2_with fail
      go_ret
      exact ⟨rfl, bthen HB.out hb⟩
    | true =>
      by_cases h60 : 60 < z
      · have d : decide ((60 : Int) < (z : Int)) = true := by simp; omega
        clear h60
        go_wp2_with fail
        refine (alive_any _).mono ?_
        rintro e w2 ⟨rfl, hb⟩
        go_wp2_with fail
        go_ret
        exact ⟨rfl, bthen HB.out hb⟩
      · have d : decide ((60 : Int) < (z : Int)) = false := by simp; omega
        clear h60
        go_wp2_with fail
        refine (alive_any _).mono ?_
        rintro e w2 ⟨rfl, hb⟩
        go_wp2_with fail
        go_ret
        exact ⟨rfl, bthen HB.out hb⟩
  case inl =>
    have HB := Lib.hid hb
    have HP := Lib.hid hp
    have HG := Lib.hid hgood
    clear hb hp hgood
    cases f with
    | false =>
      go_wp2_with fail
      refine (alive_any _).mono ?_
      rintro e w2 ⟨rfl, hb⟩
      go_wp2_with fail
      go_ret
      exact ⟨rfl, bthen HB.out hb⟩
    | true =>
      have HFF := Lib.hid (HF.out.1 rfl)
      by_cases h60 : 60 < z
      · have d : decide ((60 : Int) < (z : Int)) = true := by simp; omega
        clear h60
        go_wp2_with fail
        refine (alive_any _).mono ?_
        rintro e w2 ⟨rfl, hb⟩
        go_wp2_with fail
        go_ret
        exact ⟨rfl, bthen HB.out hb⟩
      · have d : decide ((60 : Int) < (z : Int)) = false := by simp; omega
        obtain ⟨D, hD⟩ : ∃ D, D = dictL L := ⟨_, rfl⟩
        rw [← hD] at HP
        have HD := Lib.hid hD
        have HR := Lib.hid (show rising D by rw [hD]; exact dictL_rising L)
        have HFT := Lib.hid (show ∀ s ∈ D, fitsT s by rw [hD]; intro s hs; exact HG.out.1 s ((dictL_mem L s).1 hs))
        have HLE := Lib.hid (show D.length ≤ 100 by rw [hD]; have h1 := dictL_len L; have h2 := HFF.out.1; omega)
        have HNIL := Lib.hid (show ∀ w, DictP w (.pointer none) [] from fun w => .inl ⟨rfl, rfl⟩)
        have HRN := Lib.hid (show rising [] from List.Pairwise.nil)
        clear h60 hD
        go_wp2_with fail
        refine (find_any (.pointer none) [] s _ (HNIL.out _) (by decide) HRN.out false ⟨fun h => (by cases h), fun h => (by cases h)⟩).mono ?_
        rintro e w2 ⟨rfl, rfl⟩
        go_wp2_with fail
        refine (text_no (.pointer none) [] 0 _ (HNIL.out _) (.inr (by decide))).mono ?_
        rintro e w2 ⟨rfl, rfl⟩
        go_wp2_with fail
        refine (join_nil p D _ HP.out HLE.out HR.out HFT.out).mono ?_
        rintro e w2 ⟨Z, X, cx, Y, cy, rfl, hz, hb⟩
        obtain ⟨k, hk⟩ : ∃ k, k = D.length := ⟨_, rfl⟩
        have HK := Lib.hid hk
        have HB2 := Lib.hid (bthen HB.out hb)
        have HP2 := Lib.hid (HP.out.keep hb)
        have HZ := Lib.hid hz
        rw [← hk]
        clear hb hz hk
        go_wp2_with fail
        refine (alive_any _).mono ?_
        rintro e w3 ⟨rfl, hb⟩
        have HB3 := Lib.hid (bthen HB2.out hb)
        have HP3 := Lib.hid (HP2.out.keep hb)
        have HZ3 := Lib.hid (HZ.out.keep hb)
        clear hb
        go_wp2_with fail
        refine (len_any (.pointer none) [] _ (HNIL.out _)).mono ?_
        rintro e w4 ⟨rfl, rfl⟩
        have e0 : (([] : List ByteArray).length : Int) = 0 := rfl
        rw [e0]
        clear e0
        go_wp2_with fail
        refine (upto_any (.pointer none) [] s _ (HNIL.out _) (by decide) HRN.out).mono ?_
        rintro e w4 ⟨rfl, rfl⟩
        have e0 : (upto [] s : Int) = 0 := rfl
        rw [e0]
        clear e0
        go_wp2_with fail
        refine (bytes_any (.pointer none) [] _ (HNIL.out _) (by decide) (by simp)).mono ?_
        rintro e w5 ⟨A5, c5, rfl, hrow, _, _, hb⟩
        obtain ⟨b5, o5, rfl⟩ := hrow.head (bytesD_pos _)
        have hcv := conv_q (c := c5) (n := (bytesD []).length) hrow rfl nil_bytes.symm
        have HB5 := Lib.hid (bthen HB3.out hb)
        have HP5 := Lib.hid (HP3.out.keep hb)
        have HZ5 := Lib.hid (HZ3.out.keep hb)
        clear hrow hb
        go_wp2_with fail
        clear hcv
        refine (len_any Z D _ HZ5.out).mono ?_
        rw [← HK.out]
        rintro e w6 ⟨rfl, rfl⟩
        go_wp2_with fail
        refine (len_any p D _ HP5.out).mono ?_
        rw [← HK.out]
        rintro e w6 ⟨rfl, rfl⟩
        go_wp2_with fail
        refine (len_any p D _ HP5.out).mono ?_
        rw [← HK.out]
        rintro e w6 ⟨rfl, rfl⟩
        go_wp2_with fail
        go_ret
        exact ⟨by simp, HB5.out⟩
end Go.Proofs.Ytgegmbkjkiifaaa
