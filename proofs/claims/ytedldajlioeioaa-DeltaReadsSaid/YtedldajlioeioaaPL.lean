/- DeltaTells and DeltaBack: their walks. -/
import Derived.Test.YtedldajlioeioaaPK
namespace Go.Proofs.Ytedldajlioeioaa
open Go.RowKit
set_option linter.unusedSimpArgs false
set_option linter.unusedVariables false
theorem enc_len_bd {l : List Int} (h : l.length ≤ 300) : (encZ l).length ≤ 3000 := by
  have h1 := (enc_bd (l.length : Int)).2
  cases l with
  | nil =>
    have e : encZ [] = encV (([] : List Int).length : Int) ++ [] := rfl
    rw [e, List.append_nil]; omega
  | cons a l =>
    have e : encZ (a :: l) = encV ((a :: l).length : Int) ++ bodyZ a (a :: l) := rfl
    have h2 := (enc_bd a).2
    have h3 := (enc_bd (leastZ (stepsZ (a :: l)))).2
    have h4 := (enc_bd (widthN (offZ (a :: l)) : Int)).2
    have h5 := widthN_le64 (offZ (a :: l))
    have h6 : (packL (offZ (a :: l)) (widthN (offZ (a :: l)))).length ≤ 2400 := by
      rw [packL_length, off_length]; unfold sizeN
      have := Nat.mul_le_mul (show (a :: l).length - 1 ≤ 299 by omega) h5
      omega
    rw [e, bodyZ]
    simp only [List.length_append]
    omega
set_option maxRecDepth 100000 in
set_option maxHeartbeats 4000000 in
theorem back_walk (A B : Option Addr) (n c nb cb : Nat) (L : List Int) (X : List Int) (w : World) (hA : Row w A (L.map (Value.int .i64))) (hz : n = L.length) (hL : ints L) (hB : Row w B (X.map (Value.int .u8))) (hzb : nb = X.length) (bX : bytes X) (nB : B = none → cb = 0) (hn9 : n ≤ 9223372036854775807) (hnb9 : nb ≤ 9223372036854775807) :
    Calls Try.prog 5 #[.slice A n c, .slice B nb cb] w fun e w' => e = .returned (.bool true) ∧ Below w.heap.size w w' := by
  have HA := Lib.hid hA
  have HZ := Lib.hid hz
  have HL := Lib.hid hL
  have HB := Lib.hid hB
  have HZB := Lib.hid hzb
  have HBX := Lib.hid bX
  have HNB := Lib.hid nB
  clear hA hz hL hB hzb bX nB
  by_cases h1 : 300 < n ∨ 300 < nb
  · by_cases h2 : 300 < n
    · have hi : (300 : Int) < (n : Int) := by omega
      clear h1
      go_enter Try.func5, Try.ntmps5
      go_wp2_with fail
      refine (alive_any _).mono ?_
      rintro e w1 ⟨rfl, hb⟩
      go_wp2
      go_ret
      exact ⟨rfl, hb⟩
    · have hi : (n : Int) ≤ 300 := by omega
      have hi2 : (300 : Int) < (nb : Int) := by omega
      clear h1
      go_enter Try.func5, Try.ntmps5
      go_wp2_with fail
      refine (alive_any _).mono ?_
      rintro e w1 ⟨rfl, hb⟩
      go_wp2
      go_ret
      exact ⟨rfl, hb⟩
  have hi : (n : Int) ≤ 300 := by omega
  have hi2 : (nb : Int) ≤ 300 := by omega
  have hn3 : n ≤ 300 := by omega
  have hnb3 : nb ≤ 300 := by omega
  clear h1
  go_enter Try.func5, Try.ntmps5
  go_wp2_with fail
  refine (encode_any A n c L _ HA.out HZ.out (by omega) HL.out).mono ?_
  rintro e w1 ⟨A1, c1, rfl, hr1, hc1, hn1, hB1⟩
  obtain ⟨E, hE⟩ : ∃ E, E = encZ L := ⟨_, rfl⟩
  have HEL := Lib.hid (show E.length ≤ 3000 by rw [hE]; exact enc_len_bd (by rw [← HZ.out]; exact hn3))
  have HDE := Lib.hid (show decZ E = some L by rw [hE]; exact dec_iff.2 ⟨⟨HL.out, by rw [← HZ.out]; omega⟩, rfl⟩)
  have HEB := Lib.hid (show bytes E by rw [hE]; exact enc_byte)
  rw [← hE] at hr1 ⊢
  obtain ⟨q, hq⟩ : ∃ q, q = E.length := ⟨_, rfl⟩
  rw [← hq] at HEL ⊢
  have HQ := Lib.hid hq
  have HR1 := Lib.hid hr1
  have HN1 := Lib.hid hn1
  have HB1 := Lib.hid hB1
  clear hE hq hr1 hn1 hB1 hc1
  go_wp2_with fail
  refine (decode_any A1 q c1 E _ HR1.out HQ.out (by have := HEL.out; omega) HEB.out HN1.out _ HDE.out.symm).mono ?_
  rintro e w2 ⟨⟨A2, c2, rfl, hr2, hc2, hn2⟩, hB2⟩
  rw [← HZ.out]
  have HR2 := Lib.hid hr2
  have HB2 := Lib.hid (bthen HB1.out hB2)
  clear hr2 hc2 hn2 hB2
  go_wp2_with fail
  refine (ints_any A2 A n c2 n c L L _ HR2.out (HA.out.keep (Nat.le_refl _) HB2.out) HZ.out HZ.out (by omega) true (by simp)).mono ?_
  rintro e w3 ⟨rfl, hq3⟩
  have HB3 := Lib.hid (show Below w.heap.size w w3 by obtain ⟨m, rfl⟩ := hq3; exact below_drewN HB2.out m)
  clear hq3
  obtain ⟨o, ho⟩ : ∃ o, o = decZ X := ⟨_, rfl⟩
  have HO := Lib.hid ho
  clear ho
  go_wp2_with fail
  refine (decode_any B nb cb X _ (HB.out.keep (Nat.le_refl _) HB3.out) HZB.out (by omega) HBX.out HNB.out o HO.out).mono ?_
  rintro e w4 ⟨hm, hB4⟩
  have HB4 := Lib.hid (bthen HB3.out hB4)
  clear hB4
  cases o with
  | none =>
    obtain rfl := hm
    go_wp2_with fail
    refine (alive_any _).mono ?_
    rintro e w5 ⟨rfl, hb⟩
    have HB5 := Lib.hid (bthen HB4.out hb)
    clear hb
    go_wp2
    go_ret
    exact ⟨rfl, HB5.out⟩
  | some l =>
    obtain ⟨A5, c5, rfl, hr5, hc5, hn5⟩ := hm
    have hdi := dec_iff.1 HO.out.symm
    obtain ⟨m, hm⟩ : ∃ m, m = l.length := ⟨_, rfl⟩
    have hm9 : m ≤ 65536 := by rw [hm]; exact hdi.1.2
    have HLI := Lib.hid hdi.1.1
    have HEE := Lib.hid hdi.2
    rw [← hm] at hc5 ⊢
    have HM := Lib.hid hm
    have HR5 := Lib.hid hr5
    clear hm hdi hr5 hn5
    go_wp2_with fail
    refine (encode_any A5 m c5 l _ HR5.out HM.out hm9 HLI.out).mono ?_
    rw [HEE.out]
    rintro e w6 ⟨A6, c6, rfl, hr6, hc6, hn6, hB6⟩
    rw [← HZB.out]
    have HR6 := Lib.hid hr6
    have HB6 := Lib.hid (bthen HB4.out hB6)
    clear hr6 hc6 hn6 hB6
    go_wp2_with fail
    refine (alive_any _).mono ?_
    rintro e w7 ⟨rfl, hb⟩
    obtain ⟨s, hs⟩ : ∃ s, s = strOfNums X := ⟨_, rfl⟩
    have v1 := conv_any (c := c6) (HR6.out.keep (Nat.le_refl _) hb) HZB.out
    have v2 := conv_any (c := cb) (HB.out.keep (Nat.le_refl _) (bthen HB6.out hb)) HZB.out
    rw [← hs] at v1 v2
    have HB7 := Lib.hid (bthen HB6.out hb)
    clear hb hs
    go_wp2
    clear v1 v2
    go_ret
    exact ⟨by first | rfl | simp, HB7.out⟩
end Go.Proofs.Ytedldajlioeioaa
