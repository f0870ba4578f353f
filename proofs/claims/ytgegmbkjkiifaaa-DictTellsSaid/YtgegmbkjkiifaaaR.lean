/- DictTells' walk. -/
import Derived.Test.YtgegmbkjkiifaaaP
import Derived.Test.YtgegmbkjkiifaaaGU
import Derived.Deep.RegionHeld3
namespace Go.Proofs.Ytgegmbkjkiifaaa
open Go.RowKit Go.Lib
set_option linter.unusedSimpArgs false
set_option linter.unusedVariables false
set_option maxRecDepth 100000 in
set_option maxHeartbeats 60000000 in
theorem tells_walk (A : Option Addr) (n c : Nat) (L : List ByteArray) (s : ByteArray) (i : Int) (w : World) (hA : Row w A (texts L)) (hn : n = L.length) (hnc : n ≤ c) (ha : A = none → c = 0) (hL : ∀ s ∈ L, s.size ≤ 9223372036854775807) (hn0 : n ≤ 9223372036854775807) :
    Calls Try.prog 3 #[.slice A n c, .string s, .int .i64 i] w fun e w' => e = .returned (.bool true) ∧ Below w.heap.size w w' := by
  have HA := Lib.hid hA
  have HN := Lib.hid hn
  have HL := Lib.hid hL
  have Ha := Lib.hid ha
  obtain ⟨f, hf⟩ := bool_of (fits6P L)
  have HF := Lib.hid hf
  obtain ⟨z, hz⟩ : ∃ z, s.size = z := ⟨_, rfl⟩
  clear hA hn hL hf ha
  go_enter Try.func3, Try.ntmps3
  go_wp2_with fail
  refine (fits_any A n c L _ HA.out HN.out hn0 f HF.out).mono ?_
  rintro e w1 ⟨rfl, rfl⟩
  cases f with
  | false =>
    go_wp2_with fail
    refine (alive_any _).mono ?_
    rintro e w2 ⟨rfl, hb⟩
    go_wp2_with fail
    go_ret
    exact ⟨rfl, hb⟩
  | true =>
  have HFF := Lib.hid (HF.out.1 rfl)
  have hn100 : n ≤ 100 := by have h1 := HFF.out.1; have h2 := HN.out; omega
  by_cases h60 : 60 < z
  · have d : decide ((60 : Int) < (z : Int)) = true := by simp; omega
    clear h60
    go_wp2_with fail
    refine (alive_any _).mono ?_
    rintro e w2 ⟨rfl, hb⟩
    go_wp2_with fail
    go_ret
    exact ⟨rfl, hb⟩
  have d : decide ((60 : Int) < (z : Int)) = false := by simp; omega
  clear h60
  go_wp2_with (at_builtin; refine wpList_append_texts rfl _ _ rfl w.heap.size _ 0 [] rfl A n c L rfl ?own ?row HN.out hnc Ha.out ?q1 ?q2 ?_)
  case own => exact own_empty (Nat.le_refl _)
  case row => exact HA.out.keep (Nat.le_refl _) (bpush (Below.refl _ _) _)
  case q1 => omega
  case q2 => simp
  intro v1 w1 ho1 hg1 _
  have HB1 := Lib.hid (show Below w.heap.size w w1 from (bpush (Below.refl _ _) _).trans (grown_own (own_empty (Nat.le_refl _)) hg1 (by simp)))
  have ho1' : w1.ownsRow w.heap.size 9 1 v1 n (texts L) := by simpa using ho1
  obtain ⟨A1, c1, rfl, hr1, hc1, _⟩ := own_slice ho1'
  have HR1 := Lib.hid hr1
  clear ho1 ho1' hg1 hr1
  go_wp2_with fail
  refine (new_any A n c L _ (HA.out.keep (Nat.le_refl _) HB1.out) HN.out (by omega) HL.out).mono ?_
  rintro e w2 h
  rcases h with ⟨hgood, p, rfl, hp, hb⟩ | ⟨hbad, rfl, hb⟩
  case inr =>
    have HB2 := Lib.hid (bthen HB1.out hb)
    have HR2 := Lib.hid (HR1.out.keep (Nat.le_refl _) hb)
    have HBAD := Lib.hid (show ¬ ∀ s ∈ L, fitsT s from fun h => hbad ⟨h, by have h1 := dictL_len L; have h2 := HN.out; omega⟩)
    clear hb hbad
    go_wp2_with fail
    refine (refnew_any A n c L _ (HA.out.keep (Nat.le_refl _) HB2.out) HN.out hn100).mono ?_
    rintro e w3 h
    rcases h with ⟨hgood, _⟩ | ⟨_, rfl, hb⟩
    case inl => exact absurd hgood HBAD.out
    case inr =>
      have HB3 := Lib.hid (bthen HB2.out hb)
      have HR3 := Lib.hid (HR2.out.keep (Nat.le_refl _) hb)
      clear hb
      go_wp2_with fail
      refine (sametexts_any A A1 n c n c1 L L _ (HA.out.keep (Nat.le_refl _) HB3.out) HR3.out HN.out HN.out (by omega) (by omega) true ⟨fun _ => rfl, fun _ => rfl⟩).mono ?_
      rintro e w4 ⟨rfl, hb⟩
      have HB4 := Lib.hid (bthen HB3.out hb)
      have HR4 := Lib.hid (HR3.out.keep (Nat.le_refl _) hb)
      clear hb
      go_wp2_with fail
      refine (sametexts_any A A1 n c n c1 L L _ (HA.out.keep (Nat.le_refl _) HB4.out) HR4.out HN.out HN.out (by omega) (by omega) true ⟨fun _ => rfl, fun _ => rfl⟩).mono ?_
      rintro e w5 ⟨rfl, hb⟩
      have HB5 := Lib.hid (bthen HB4.out hb)
      clear hb
      go_wp2_with fail
      refine (alive_any _).mono ?_
      rintro e w6 ⟨rfl, hb⟩
      go_wp2_with fail
      go_ret
      exact ⟨rfl, bthen HB5.out hb⟩
  case inl =>
    have HB2 := Lib.hid (bthen HB1.out hb)
    have HR2 := Lib.hid (HR1.out.keep (Nat.le_refl _) hb)
    have HG := Lib.hid hgood
    have HP := Lib.hid hp
    clear hb hgood hp
    go_wp2_with fail
    refine (refnew_any A n c L _ (HA.out.keep (Nat.le_refl _) HB2.out) HN.out hn100).mono ?_
    rintro e w3 h
    rcases h with ⟨_, Am, cm, rfl, hrm, _, _, hb⟩ | ⟨hbad, _⟩
    case inr => exact absurd HG.out.1 hbad
    case inl =>
      obtain ⟨D, hD⟩ : ∃ D, D = dictL L := ⟨_, rfl⟩
      rw [← hD] at hrm HP ⊢
      obtain ⟨k, hk⟩ : ∃ k, k = D.length := ⟨_, rfl⟩
      have HK := Lib.hid hk
      have HD := Lib.hid hD
      have hk100 : k ≤ 100 := by rw [hk, hD]; have h1 := dictL_len L; have h2 := HN.out; omega
      have HRS := Lib.hid (show rising D by rw [hD]; exact dictL_rising L)
      have HLE2 := Lib.hid (show D.length ≤ 65536 by omega)
      have HLE3 := Lib.hid (show D.length ≤ 4611686018427387903 by omega)
      have HS100 := Lib.hid (show ∀ s ∈ D, s.size ≤ 100 from fun x hx => by rw [hD] at hx; have := (HG.out.1 x ((dictL_mem L x).1 hx)).2; omega)
      have HB3 := Lib.hid (bthen HB2.out hb)
      have HR3 := Lib.hid (HR2.out.keep (Nat.le_refl _) hb)
      have HP3 := Lib.hid (HP.out.keep hb)
      have HRM3 := Lib.hid hrm
      obtain ⟨qq, hqq⟩ : ∃ qq, qq = strOfNums (bytesD D) := ⟨_, rfl⟩
      have HQQ := Lib.hid hqq
      rw [← hk]
      clear hb hrm hk hD hqq
      go_wp2_with fail
      refine (sametexts_any A A1 n c n c1 L L _ (HA.out.keep (Nat.le_refl _) HB3.out) HR3.out HN.out HN.out (by omega) (by omega) true ⟨fun _ => rfl, fun _ => rfl⟩).mono ?_
      rintro e wz ⟨rfl, hb⟩
      have HBZ := Lib.hid (bthen HB3.out hb)
      have HPZ := Lib.hid (HP3.out.keep hb)
      have HRM := Lib.hid (HRM3.out.keep (Nat.le_refl _) hb)
      obtain ⟨q, hq⟩ := bool_of (s ∈ D)
      have HQ := Lib.hid hq
      clear hb hq
      go_wp2_with fail
      refine (find_any p D s _ HPZ.out HLE3.out HRS.out q HQ.out).mono ?_
      rintro e w5 ⟨rfl, rfl⟩
      obtain ⟨x, hx⟩ : ∃ x : Nat, x = (if q then upto D s else 0) := ⟨_, rfl⟩
      have HX := Lib.hid hx
      rw [← hx]
      clear hx
      go_wp2_with fail
      refine (reffind_any Am k cm D s _ HRM.out HK.out (by omega) HRS.out q HQ.out).mono ?_
      rw [← HX.out]
      rintro e w5 ⟨rfl, rfl⟩
      by_cases hi : 0 ≤ i ∧ i < (k : Int)
      · obtain ⟨hi0, hik⟩ := hi
        obtain ⟨j, rfl⟩ : ∃ j : Nat, i = (j : Int) := ⟨i.toNat, by omega⟩
        have hjk : j < D.length := by have := HK.out; omega
        obtain ⟨t, ht⟩ : ∃ t, t = D[j] := ⟨_, rfl⟩
        have HT := Lib.hid ht
        obtain ⟨b, off, he, c0⟩ := text_cell HRM.out hjk
        rw [← ht] at c0
        subst he
        clear ht
        go_wp2_with fail
        refine (dtext_any p D j _ HPZ.out hjk HLE3.out t HT.out).mono ?_
        rintro e w5 ⟨rfl, rfl⟩
        go_wp2_with fail
        clear c0
        refine wp_region_held_drew (S := fun w' => Below wz.heap.size wz w') (by kernel_rfl) (below_drewN (Below.refl _ _) 1) ?_
        intro hHeld
        refine wpAnyH_ready (rs := [0]) (by kernel_rfl) (by simp) ?_
        refine AllReadyH.cons rfl (fun K hK => ?_) AllReadyH.nil
        go_simp
        (go_at_call 9; refine (alive_any _).mono ?_; rintro e w6 ⟨rfl, hb⟩)
        refine hK.out _ _ (bthen hHeld hb) (fun hHeld => ?_)
        clear hK K
        (try simp only [Act.put, List.setIfInBounds_toArray, List.set_cons_zero, List.set_cons_succ])
        refine take_want (i := 1) (v := ?v1k1) rfl (by kernel_rfl) (by kernel_rfl) (by kernel_rfl) (fun _ _ _ h => h) (by rfl) ?y1k1 (by assumption) ?r1k1
        case y1k1 => (intro w hSw; go_simp; all_goals with_reducible rfl)
        (try simp only [Act.put, List.setIfInBounds_toArray, List.set_cons_zero, List.set_cons_succ])
        refine take_want (i := 2) (v := ?v2k1) rfl (by kernel_rfl) (by kernel_rfl) (by kernel_rfl) (fun _ _ _ h => h) (by rfl) ?y2k1 (by assumption) ?r2k1
        case y2k1 => (intro w hSw; go_simp; all_goals with_reducible rfl)
        (try simp only [Act.put, List.setIfInBounds_toArray, List.set_cons_zero, List.set_cons_succ])
        refine take_want (i := 4) (v := ?v4k1) rfl (by kernel_rfl) (by kernel_rfl) (by kernel_rfl) (fun _ _ _ h => h) (by rfl) ?y4k1 (by assumption) ?r4k1
        case y4k1 => (intro w hSw; go_simp; all_goals with_reducible rfl)
        (try simp only [Act.put, List.setIfInBounds_toArray, List.set_cons_zero, List.set_cons_succ])
        refine wpAnyH_ready (rs := [3]) (by kernel_rfl) (by simp) ?_
        refine AllReadyH.cons rfl (fun K hK => ?_) AllReadyH.nil
        go_simp
        (go_at_call 16; refine (texts_any p D _ (HPZ.out.keep hHeld) HLE2.out).mono ?_; rintro e w7 ⟨A5, c5, rfl, hr5, hc5, hn5, hb⟩; have HR5 := Lib.hid hr5; rw [← HK.out]; clear hr5 hc5 hn5)
        refine hK.out _ _ (bthen hHeld hb) (fun hHeld => ?_)
        clear hK K
        (try simp only [Act.put, List.setIfInBounds_toArray, List.set_cons_zero, List.set_cons_succ])
        refine wpAnyH_ready (rs := [5]) (by kernel_rfl) (by simp) ?_
        refine AllReadyH.cons rfl (fun K hK => ?_) AllReadyH.nil
        go_simp
        (go_at_call 12; refine (sametexts_any A5 (some ⟨b, off, none⟩) k c5 k cm D D _ HR5.out (HRM.out.keep (Nat.le_refl _) hHeld) HK.out HK.out (by omega) (by omega) true ⟨fun _ => rfl, fun _ => rfl⟩).mono ?_; rintro e w8 ⟨rfl, hb⟩)
        refine hK.out _ _ (bthen hHeld hb) (fun hHeld => ?_)
        clear hK K
        (try simp only [Act.put, List.setIfInBounds_toArray, List.set_cons_zero, List.set_cons_succ])
        refine take_want (i := 6) (v := ?v6k1) rfl (by kernel_rfl) (by kernel_rfl) (by kernel_rfl) (fun _ _ _ h => h) (by rfl) ?y6k1 (by assumption) ?r6k1
        case y6k1 => (intro w hSw; go_simp; all_goals with_reducible rfl)
        (try simp only [Act.put, List.setIfInBounds_toArray, List.set_cons_zero, List.set_cons_succ])
        refine take_want (i := 7) (v := ?v7k1) rfl (by kernel_rfl) (by kernel_rfl) (by kernel_rfl) (fun _ _ _ h => h) (by rfl) ?y7k1 (by assumption) ?r7k1
        case y7k1 => (intro w hSw; go_simp; all_goals with_reducible rfl)
        (try simp only [Act.put, List.setIfInBounds_toArray, List.set_cons_zero, List.set_cons_succ])
        refine take_want (i := 8) (v := ?v8k1) rfl (by kernel_rfl) (by kernel_rfl) (by kernel_rfl) (fun _ _ _ h => h) (by rfl) ?y8k1 (by assumption) ?r8k1
        case y8k1 => (intro w hSw; go_simp; all_goals with_reducible rfl)
        (try simp only [Act.put, List.setIfInBounds_toArray, List.set_cons_zero, List.set_cons_succ])
        refine take_want (i := 9) (v := ?v9k1) rfl (by kernel_rfl) (by kernel_rfl) (by kernel_rfl) (fun _ _ _ h => h) (by rfl) ?y9k1 (by assumption) ?r9k1
        case y9k1 => (intro w hSw; go_simp; all_goals with_reducible rfl)
        (try simp only [Act.put, List.setIfInBounds_toArray, List.set_cons_zero, List.set_cons_succ])
        refine take_want (i := 10) (v := .bool true) rfl (by kernel_rfl) (by kernel_rfl) (by kernel_rfl) (fun _ _ _ h => h) (by rfl) ?y10k1 (by assumption) ?r10k1
        case y10k1 => (intro w hSw; go_simp; all_goals first | rfl | simp)
        (try simp only [Act.put, List.setIfInBounds_toArray, List.set_cons_zero, List.set_cons_succ])
        refine take_want (i := 11) (v := ?v11k1) rfl (by kernel_rfl) (by kernel_rfl) (by kernel_rfl) (fun _ _ _ h => h) (by rfl) ?y11k1 (by assumption) ?r11k1
        case y11k1 => (intro w hSw; go_simp; all_goals with_reducible rfl)
        (try simp only [Act.put, List.setIfInBounds_toArray, List.set_cons_zero, List.set_cons_succ])
        refine take_want (i := 12) (v := ?v12k1) rfl (by kernel_rfl) (by kernel_rfl) (by kernel_rfl) (fun _ _ _ h => h) (by rfl) ?y12k1 (by assumption) ?r12k1
        case y12k1 => (intro w hSw; go_simp; all_goals with_reducible rfl)
        (try simp only [Act.put, List.setIfInBounds_toArray, List.set_cons_zero, List.set_cons_succ])
        refine take_want (i := 13) (v := ?v13k1) rfl (by kernel_rfl) (by kernel_rfl) (by kernel_rfl) (fun _ _ _ h => h) (by rfl) ?y13k1 (by assumption) ?r13k1
        case y13k1 => (intro w hSw; go_simp; all_goals with_reducible rfl)
        (try simp only [Act.put, List.setIfInBounds_toArray, List.set_cons_zero, List.set_cons_succ])
        refine take_want (i := 14) (v := ?v14k1) rfl (by kernel_rfl) (by kernel_rfl) (by kernel_rfl) (fun _ _ _ h => h) (by rfl) ?y14k1 (by assumption) ?r14k1
        case y14k1 => (intro w hSw; go_simp; all_goals with_reducible rfl)
        (try simp only [Act.put, List.setIfInBounds_toArray, List.set_cons_zero, List.set_cons_succ])
        refine take_want (i := 15) (v := .bool true) rfl (by kernel_rfl) (by kernel_rfl) (by kernel_rfl) (fun _ _ _ h => h) (by rfl) ?y15k1 (by assumption) ?r15k1
        case y15k1 => (intro w hSw; go_simp; all_goals first | rfl | simp)
        (try simp only [Act.put, List.setIfInBounds_toArray, List.set_cons_zero, List.set_cons_succ])
        refine take_want (i := 16) (v := ?v16k1) rfl (by kernel_rfl) (by kernel_rfl) (by kernel_rfl) (fun _ _ _ h => h) (by rfl) ?y16k1 (by assumption) ?r16k1
        case y16k1 => (intro w hSw; go_simp; all_goals with_reducible rfl)
        (try simp only [Act.put, List.setIfInBounds_toArray, List.set_cons_zero, List.set_cons_succ])
        refine take_want (i := 17) (v := ?v17k1) rfl (by kernel_rfl) (by kernel_rfl) (by kernel_rfl) (fun _ _ _ h => h) (by rfl) ?y17k1 (by assumption) ?r17k1
        case y17k1 => (intro w hSw; go_simp; all_goals with_reducible rfl)
        (try simp only [Act.put, List.setIfInBounds_toArray, List.set_cons_zero, List.set_cons_succ])
        refine take_want (i := 18) (v := ?v18k1) rfl (by kernel_rfl) (by kernel_rfl) (by kernel_rfl) (fun _ _ _ h => h) (by rfl) ?y18k1 (by assumption) ?r18k1
        case y18k1 => (intro w hSw; go_simp; all_goals with_reducible rfl)
        (try simp only [Act.put, List.setIfInBounds_toArray, List.set_cons_zero, List.set_cons_succ])
        refine take_want (i := 19) (v := ?v19k1) rfl (by kernel_rfl) (by kernel_rfl) (by kernel_rfl) (fun _ _ _ h => h) (by rfl) ?y19k1 (by assumption) ?r19k1
        case y19k1 => (intro w hSw; go_simp; all_goals with_reducible rfl)
        (try simp only [Act.put, List.setIfInBounds_toArray, List.set_cons_zero, List.set_cons_succ])
        refine take_want (i := 21) (v := ?v21k1) rfl (by kernel_rfl) (by kernel_rfl) (by kernel_rfl) (fun _ _ _ h => h) (by rfl) ?y21k1 (by assumption) ?r21k1
        case y21k1 => (intro w hSw; go_simp; all_goals with_reducible rfl)
        (try simp only [Act.put, List.setIfInBounds_toArray, List.set_cons_zero, List.set_cons_succ])
        refine take_want (i := 22) (v := ?v22k1) rfl (by kernel_rfl) (by kernel_rfl) (by kernel_rfl) (fun _ _ _ h => h) (by rfl) ?y22k1 (by assumption) ?r22k1
        case y22k1 => (intro w hSw; go_simp; all_goals with_reducible rfl)
        (try simp only [Act.put, List.setIfInBounds_toArray, List.set_cons_zero, List.set_cons_succ])
        refine wpAnyH_ready (rs := [20]) (by kernel_rfl) (by simp) ?_
        refine AllReadyH.cons rfl (fun K hK => ?_) AllReadyH.nil
        go_simp
        (go_at_call 17; refine (upto_any p D s _ (HPZ.out.keep hHeld) HLE3.out HRS.out).mono ?_; rintro e w9 ⟨rfl, rfl⟩)
        refine hK.out _ _ (hHeld) (fun hHeld => ?_)
        clear hK K
        (try simp only [Act.put, List.setIfInBounds_toArray, List.set_cons_zero, List.set_cons_succ])
        refine wpAnyH_ready (rs := [23]) (by kernel_rfl) (by simp) ?_
        refine AllReadyH.cons rfl (fun K hK => ?_) AllReadyH.nil
        go_simp
        (go_at_call 18; refine (refupto_any (some ⟨b, off, none⟩) k cm D s _ (HRM.out.keep (Nat.le_refl _) hHeld) HK.out (by omega) HRS.out).mono ?_; rintro e w9 ⟨rfl, rfl⟩)
        refine hK.out _ _ (hHeld) (fun hHeld => ?_)
        clear hK K
        (try simp only [Act.put, List.setIfInBounds_toArray, List.set_cons_zero, List.set_cons_succ])
        refine take_want (i := 24) (v := .bool true) rfl (by kernel_rfl) (by kernel_rfl) (by kernel_rfl) (fun _ _ _ h => h) (by rfl) ?y24k1 (by assumption) ?r24k1
        case y24k1 => (intro w hSw; go_simp; all_goals first | rfl | simp)
        (try simp only [Act.put, List.setIfInBounds_toArray, List.set_cons_zero, List.set_cons_succ])
        refine take_want (i := 25) (v := ?v25k1) rfl (by kernel_rfl) (by kernel_rfl) (by kernel_rfl) (fun _ _ _ h => h) (by rfl) ?y25k1 (by assumption) ?r25k1
        case y25k1 => (intro w hSw; go_simp; all_goals with_reducible rfl)
        (try simp only [Act.put, List.setIfInBounds_toArray, List.set_cons_zero, List.set_cons_succ])
        refine take_want (i := 26) (v := ?v26k1) rfl (by kernel_rfl) (by kernel_rfl) (by kernel_rfl) (fun _ _ _ h => h) (by rfl) ?y26k1 (by assumption) ?r26k1
        case y26k1 => (intro w hSw; go_simp; all_goals with_reducible rfl)
        (try simp only [Act.put, List.setIfInBounds_toArray, List.set_cons_zero, List.set_cons_succ])
        refine take_want (i := 27) (v := ?v27k1) rfl (by kernel_rfl) (by kernel_rfl) (by kernel_rfl) (fun _ _ _ h => h) (by rfl) ?y27k1 (by assumption) ?r27k1
        case y27k1 => (intro w hSw; go_simp; all_goals with_reducible rfl)
        (try simp only [Act.put, List.setIfInBounds_toArray, List.set_cons_zero, List.set_cons_succ])
        refine take_want (i := 30) (v := ?v30k1) rfl (by kernel_rfl) (by kernel_rfl) (by kernel_rfl) (fun _ _ _ h => h) (by rfl) ?y30k1 (by assumption) ?r30k1
        case y30k1 => (intro w hSw; go_simp; all_goals with_reducible rfl)
        (try simp only [Act.put, List.setIfInBounds_toArray, List.set_cons_zero, List.set_cons_succ])
        refine wpAnyH_ready (rs := [28]) (by kernel_rfl) (by simp) ?_
        refine AllReadyH.cons rfl (fun K hK => ?_) AllReadyH.nil
        go_simp
        (go_at_call 19; refine (bytes_any p D _ (HPZ.out.keep hHeld) HLE2.out HS100.out).mono ?_; rintro e w10 ⟨A7, c7, rfl, hr7, _, _, hb⟩; obtain ⟨b7, o7, rfl⟩ := hr7.head (bytesD_pos _))
        refine hK.out _ _ (bthen hHeld hb) (fun hHeld => ?_)
        clear hK K
        (try simp only [Act.put, List.setIfInBounds_toArray, List.set_cons_zero, List.set_cons_succ])
        refine wpAnyH_sub (S' := fun w' => Below wz.heap.size wz w' ∧ Row w' (some ⟨b7, o7, none⟩) ((bytesD D).map (Value.int .u8))) (fun _ h => h.1) _ _ _ _ ?_
        have hHeld2 := (⟨hHeld, hr7⟩ : (fun w' => Below wz.heap.size wz w' ∧ Row w' (some ⟨b7, o7, none⟩) ((bytesD D).map (Value.int .u8))) w10)
        clear hHeld
        refine take_want (i := 29) (v := .string qq) rfl (by kernel_rfl) (by kernel_rfl) (by kernel_rfl) (fun _ _ _ h => h) (by rfl) ?y29k1 (by assumption) ?r29k1
        case y29k1 => (intro w hSw; have cv := conv_q (c := c7) (n := (bytesD D).length) hSw.2 rfl HQQ.out; go_simp; all_goals first | exact cv | with_reducible rfl)
        (try simp only [Act.put, List.setIfInBounds_toArray, List.set_cons_zero, List.set_cons_succ])
        refine wpAnyH_ready (rs := [31]) (by kernel_rfl) (by simp) ?_
        refine AllReadyH.cons rfl (fun K hK => ?_) AllReadyH.nil
        go_simp
        (go_at_call 20; refine (refbytes_any (some ⟨b, off, none⟩) k cm D _ (HRM.out.keep (Nat.le_refl _) hHeld2.1) HK.out (by omega) HS100.out).mono ?_; rintro e w11 ⟨A8, c8, rfl, hr8, _, _, hb⟩; obtain ⟨b8, o8, rfl⟩ := hr8.head (bytesD_pos _))
        refine hK.out _ _ (⟨bthen hHeld2.1 hb, hHeld2.2.keep (Nat.le_refl _) hb⟩) (fun hHeld => ?_)
        clear hK K
        (try simp only [Act.put, List.setIfInBounds_toArray, List.set_cons_zero, List.set_cons_succ])
        refine wpAnyH_sub (S' := fun w' => (Below wz.heap.size wz w' ∧ Row w' (some ⟨b7, o7, none⟩) ((bytesD D).map (Value.int .u8))) ∧ Row w' (some ⟨b8, o8, none⟩) ((bytesD D).map (Value.int .u8))) (fun _ h => h.1) _ _ _ _ ?_
        have hHeld3 := (⟨hHeld, hr8⟩ : (fun w' => (Below wz.heap.size wz w' ∧ Row w' (some ⟨b7, o7, none⟩) ((bytesD D).map (Value.int .u8))) ∧ Row w' (some ⟨b8, o8, none⟩) ((bytesD D).map (Value.int .u8))) w11)
        clear hHeld hHeld2
        refine take_want (i := 32) (v := .string qq) rfl (by kernel_rfl) (by kernel_rfl) (by kernel_rfl) (fun _ _ _ h => h) (by rfl) ?y32k1 (by assumption) ?r32k1
        case y32k1 => (intro w hSw; have cv := conv_q (c := c8) (n := (bytesD D).length) hSw.2 rfl HQQ.out; go_simp; all_goals first | exact cv | with_reducible rfl)
        (try simp only [Act.put, List.setIfInBounds_toArray, List.set_cons_zero, List.set_cons_succ])
        refine take_want (i := 33) (v := .bool true) rfl (by kernel_rfl) (by kernel_rfl) (by kernel_rfl) (fun _ _ _ h => h) (by rfl) ?y33k1 (by assumption) ?r33k1
        case y33k1 => (intro w hSw; go_simp; all_goals first | rfl | simp)
        (try simp only [Act.put, List.setIfInBounds_toArray, List.set_cons_zero, List.set_cons_succ])
        refine take_want (i := 34) (v := ?v34k1) rfl (by kernel_rfl) (by kernel_rfl) (by kernel_rfl) (fun _ _ _ h => h) (by rfl) ?y34k1 (by assumption) ?r34k1
        case y34k1 => (intro w hSw; go_simp; all_goals with_reducible rfl)
        (try simp only [Act.put, List.setIfInBounds_toArray, List.set_cons_zero, List.set_cons_succ])
        refine take_want (i := 35) (v := ?v35k1) rfl (by kernel_rfl) (by kernel_rfl) (by kernel_rfl) (fun _ _ _ h => h) (by rfl) ?y35k1 (by assumption) ?r35k1
        case y35k1 => (intro w hSw; go_simp; all_goals with_reducible rfl)
        (try simp only [Act.put, List.setIfInBounds_toArray, List.set_cons_zero, List.set_cons_succ])
        refine wpAnyH_done (by kernel_rfl) ?_ _
        have hfin := bthen HBZ.out hHeld3.1.1
        go_wp2_with fail
        go_ret
        exact ⟨rfl, hfin⟩
      · have hno : i < 0 ∨ (D.length : Int) ≤ i := by have := HK.out; omega
        have HNO := Lib.hid hno
        clear hno
        by_cases h0 : i < 0
        · have g0 : decide (0 ≤ i) = false := by simp; omega
          clear hi
          go_wp2_with fail
          refine (text_no p D i _ HPZ.out HNO.out).mono ?_
          rintro e w5 ⟨rfl, rfl⟩
          go_wp2_with fail
          refine wp_region_held_drew (S := fun w' => Below wz.heap.size wz w') (by kernel_rfl) (below_drewN (Below.refl _ _) 1) ?_
          intro hHeld
          refine wpAnyH_ready (rs := [0]) (by kernel_rfl) (by simp) ?_
          refine AllReadyH.cons rfl (fun K hK => ?_) AllReadyH.nil
          go_simp
          (go_at_call 9; refine (alive_any _).mono ?_; rintro e w6 ⟨rfl, hb⟩)
          refine hK.out _ _ (bthen hHeld hb) (fun hHeld => ?_)
          clear hK K
          (try simp only [Act.put, List.setIfInBounds_toArray, List.set_cons_zero, List.set_cons_succ])
          refine take_want (i := 1) (v := ?v1k2) rfl (by kernel_rfl) (by kernel_rfl) (by kernel_rfl) (fun _ _ _ h => h) (by rfl) ?y1k2 (by assumption) ?r1k2
          case y1k2 => (intro w hSw; go_simp; all_goals with_reducible rfl)
          (try simp only [Act.put, List.setIfInBounds_toArray, List.set_cons_zero, List.set_cons_succ])
          refine take_want (i := 2) (v := ?v2k2) rfl (by kernel_rfl) (by kernel_rfl) (by kernel_rfl) (fun _ _ _ h => h) (by rfl) ?y2k2 (by assumption) ?r2k2
          case y2k2 => (intro w hSw; go_simp; all_goals with_reducible rfl)
          (try simp only [Act.put, List.setIfInBounds_toArray, List.set_cons_zero, List.set_cons_succ])
          refine take_want (i := 4) (v := ?v4k2) rfl (by kernel_rfl) (by kernel_rfl) (by kernel_rfl) (fun _ _ _ h => h) (by rfl) ?y4k2 (by assumption) ?r4k2
          case y4k2 => (intro w hSw; go_simp; all_goals with_reducible rfl)
          (try simp only [Act.put, List.setIfInBounds_toArray, List.set_cons_zero, List.set_cons_succ])
          refine wpAnyH_ready (rs := [3]) (by kernel_rfl) (by simp) ?_
          refine AllReadyH.cons rfl (fun K hK => ?_) AllReadyH.nil
          go_simp
          (go_at_call 16; refine (texts_any p D _ (HPZ.out.keep hHeld) HLE2.out).mono ?_; rintro e w7 ⟨A5, c5, rfl, hr5, hc5, hn5, hb⟩; have HR5 := Lib.hid hr5; rw [← HK.out]; clear hr5 hc5 hn5)
          refine hK.out _ _ (bthen hHeld hb) (fun hHeld => ?_)
          clear hK K
          (try simp only [Act.put, List.setIfInBounds_toArray, List.set_cons_zero, List.set_cons_succ])
          refine wpAnyH_ready (rs := [5]) (by kernel_rfl) (by simp) ?_
          refine AllReadyH.cons rfl (fun K hK => ?_) AllReadyH.nil
          go_simp
          (go_at_call 12; refine (sametexts_any A5 Am k c5 k cm D D _ HR5.out (HRM.out.keep (Nat.le_refl _) hHeld) HK.out HK.out (by omega) (by omega) true ⟨fun _ => rfl, fun _ => rfl⟩).mono ?_; rintro e w8 ⟨rfl, hb⟩)
          refine hK.out _ _ (bthen hHeld hb) (fun hHeld => ?_)
          clear hK K
          (try simp only [Act.put, List.setIfInBounds_toArray, List.set_cons_zero, List.set_cons_succ])
          refine take_want (i := 6) (v := ?v6k2) rfl (by kernel_rfl) (by kernel_rfl) (by kernel_rfl) (fun _ _ _ h => h) (by rfl) ?y6k2 (by assumption) ?r6k2
          case y6k2 => (intro w hSw; go_simp; all_goals with_reducible rfl)
          (try simp only [Act.put, List.setIfInBounds_toArray, List.set_cons_zero, List.set_cons_succ])
          refine take_want (i := 7) (v := ?v7k2) rfl (by kernel_rfl) (by kernel_rfl) (by kernel_rfl) (fun _ _ _ h => h) (by rfl) ?y7k2 (by assumption) ?r7k2
          case y7k2 => (intro w hSw; go_simp; all_goals with_reducible rfl)
          (try simp only [Act.put, List.setIfInBounds_toArray, List.set_cons_zero, List.set_cons_succ])
          refine take_want (i := 8) (v := ?v8k2) rfl (by kernel_rfl) (by kernel_rfl) (by kernel_rfl) (fun _ _ _ h => h) (by rfl) ?y8k2 (by assumption) ?r8k2
          case y8k2 => (intro w hSw; go_simp; all_goals with_reducible rfl)
          (try simp only [Act.put, List.setIfInBounds_toArray, List.set_cons_zero, List.set_cons_succ])
          refine take_want (i := 9) (v := ?v9k2) rfl (by kernel_rfl) (by kernel_rfl) (by kernel_rfl) (fun _ _ _ h => h) (by rfl) ?y9k2 (by assumption) ?r9k2
          case y9k2 => (intro w hSw; go_simp; all_goals with_reducible rfl)
          (try simp only [Act.put, List.setIfInBounds_toArray, List.set_cons_zero, List.set_cons_succ])
          refine take_want (i := 10) (v := .bool true) rfl (by kernel_rfl) (by kernel_rfl) (by kernel_rfl) (fun _ _ _ h => h) (by rfl) ?y10k2 (by assumption) ?r10k2
          case y10k2 => (intro w hSw; go_simp; all_goals first | rfl | simp)
          (try simp only [Act.put, List.setIfInBounds_toArray, List.set_cons_zero, List.set_cons_succ])
          refine take_want (i := 11) (v := ?v11k2) rfl (by kernel_rfl) (by kernel_rfl) (by kernel_rfl) (fun _ _ _ h => h) (by rfl) ?y11k2 (by assumption) ?r11k2
          case y11k2 => (intro w hSw; go_simp; all_goals with_reducible rfl)
          (try simp only [Act.put, List.setIfInBounds_toArray, List.set_cons_zero, List.set_cons_succ])
          refine take_want (i := 12) (v := ?v12k2) rfl (by kernel_rfl) (by kernel_rfl) (by kernel_rfl) (fun _ _ _ h => h) (by rfl) ?y12k2 (by assumption) ?r12k2
          case y12k2 => (intro w hSw; go_simp; all_goals with_reducible rfl)
          (try simp only [Act.put, List.setIfInBounds_toArray, List.set_cons_zero, List.set_cons_succ])
          refine take_want (i := 13) (v := ?v13k2) rfl (by kernel_rfl) (by kernel_rfl) (by kernel_rfl) (fun _ _ _ h => h) (by rfl) ?y13k2 (by assumption) ?r13k2
          case y13k2 => (intro w hSw; go_simp; all_goals with_reducible rfl)
          (try simp only [Act.put, List.setIfInBounds_toArray, List.set_cons_zero, List.set_cons_succ])
          refine take_want (i := 14) (v := ?v14k2) rfl (by kernel_rfl) (by kernel_rfl) (by kernel_rfl) (fun _ _ _ h => h) (by rfl) ?y14k2 (by assumption) ?r14k2
          case y14k2 => (intro w hSw; go_simp; all_goals with_reducible rfl)
          (try simp only [Act.put, List.setIfInBounds_toArray, List.set_cons_zero, List.set_cons_succ])
          refine take_want (i := 15) (v := .bool true) rfl (by kernel_rfl) (by kernel_rfl) (by kernel_rfl) (fun _ _ _ h => h) (by rfl) ?y15k2 (by assumption) ?r15k2
          case y15k2 => (intro w hSw; go_simp; all_goals first | rfl | simp)
          (try simp only [Act.put, List.setIfInBounds_toArray, List.set_cons_zero, List.set_cons_succ])
          refine take_want (i := 16) (v := ?v16k2) rfl (by kernel_rfl) (by kernel_rfl) (by kernel_rfl) (fun _ _ _ h => h) (by rfl) ?y16k2 (by assumption) ?r16k2
          case y16k2 => (intro w hSw; go_simp; all_goals with_reducible rfl)
          (try simp only [Act.put, List.setIfInBounds_toArray, List.set_cons_zero, List.set_cons_succ])
          refine take_want (i := 17) (v := ?v17k2) rfl (by kernel_rfl) (by kernel_rfl) (by kernel_rfl) (fun _ _ _ h => h) (by rfl) ?y17k2 (by assumption) ?r17k2
          case y17k2 => (intro w hSw; go_simp; all_goals with_reducible rfl)
          (try simp only [Act.put, List.setIfInBounds_toArray, List.set_cons_zero, List.set_cons_succ])
          refine take_want (i := 18) (v := ?v18k2) rfl (by kernel_rfl) (by kernel_rfl) (by kernel_rfl) (fun _ _ _ h => h) (by rfl) ?y18k2 (by assumption) ?r18k2
          case y18k2 => (intro w hSw; go_simp; all_goals with_reducible rfl)
          (try simp only [Act.put, List.setIfInBounds_toArray, List.set_cons_zero, List.set_cons_succ])
          refine take_want (i := 19) (v := ?v19k2) rfl (by kernel_rfl) (by kernel_rfl) (by kernel_rfl) (fun _ _ _ h => h) (by rfl) ?y19k2 (by assumption) ?r19k2
          case y19k2 => (intro w hSw; go_simp; all_goals with_reducible rfl)
          (try simp only [Act.put, List.setIfInBounds_toArray, List.set_cons_zero, List.set_cons_succ])
          refine take_want (i := 21) (v := ?v21k2) rfl (by kernel_rfl) (by kernel_rfl) (by kernel_rfl) (fun _ _ _ h => h) (by rfl) ?y21k2 (by assumption) ?r21k2
          case y21k2 => (intro w hSw; go_simp; all_goals with_reducible rfl)
          (try simp only [Act.put, List.setIfInBounds_toArray, List.set_cons_zero, List.set_cons_succ])
          refine take_want (i := 22) (v := ?v22k2) rfl (by kernel_rfl) (by kernel_rfl) (by kernel_rfl) (fun _ _ _ h => h) (by rfl) ?y22k2 (by assumption) ?r22k2
          case y22k2 => (intro w hSw; go_simp; all_goals with_reducible rfl)
          (try simp only [Act.put, List.setIfInBounds_toArray, List.set_cons_zero, List.set_cons_succ])
          refine wpAnyH_ready (rs := [20]) (by kernel_rfl) (by simp) ?_
          refine AllReadyH.cons rfl (fun K hK => ?_) AllReadyH.nil
          go_simp
          (go_at_call 17; refine (upto_any p D s _ (HPZ.out.keep hHeld) HLE3.out HRS.out).mono ?_; rintro e w9 ⟨rfl, rfl⟩)
          refine hK.out _ _ (hHeld) (fun hHeld => ?_)
          clear hK K
          (try simp only [Act.put, List.setIfInBounds_toArray, List.set_cons_zero, List.set_cons_succ])
          refine wpAnyH_ready (rs := [23]) (by kernel_rfl) (by simp) ?_
          refine AllReadyH.cons rfl (fun K hK => ?_) AllReadyH.nil
          go_simp
          (go_at_call 18; refine (refupto_any Am k cm D s _ (HRM.out.keep (Nat.le_refl _) hHeld) HK.out (by omega) HRS.out).mono ?_; rintro e w9 ⟨rfl, rfl⟩)
          refine hK.out _ _ (hHeld) (fun hHeld => ?_)
          clear hK K
          (try simp only [Act.put, List.setIfInBounds_toArray, List.set_cons_zero, List.set_cons_succ])
          refine take_want (i := 24) (v := .bool true) rfl (by kernel_rfl) (by kernel_rfl) (by kernel_rfl) (fun _ _ _ h => h) (by rfl) ?y24k2 (by assumption) ?r24k2
          case y24k2 => (intro w hSw; go_simp; all_goals first | rfl | simp)
          (try simp only [Act.put, List.setIfInBounds_toArray, List.set_cons_zero, List.set_cons_succ])
          refine take_want (i := 25) (v := ?v25k2) rfl (by kernel_rfl) (by kernel_rfl) (by kernel_rfl) (fun _ _ _ h => h) (by rfl) ?y25k2 (by assumption) ?r25k2
          case y25k2 => (intro w hSw; go_simp; all_goals with_reducible rfl)
          (try simp only [Act.put, List.setIfInBounds_toArray, List.set_cons_zero, List.set_cons_succ])
          refine take_want (i := 26) (v := ?v26k2) rfl (by kernel_rfl) (by kernel_rfl) (by kernel_rfl) (fun _ _ _ h => h) (by rfl) ?y26k2 (by assumption) ?r26k2
          case y26k2 => (intro w hSw; go_simp; all_goals with_reducible rfl)
          (try simp only [Act.put, List.setIfInBounds_toArray, List.set_cons_zero, List.set_cons_succ])
          refine take_want (i := 27) (v := ?v27k2) rfl (by kernel_rfl) (by kernel_rfl) (by kernel_rfl) (fun _ _ _ h => h) (by rfl) ?y27k2 (by assumption) ?r27k2
          case y27k2 => (intro w hSw; go_simp; all_goals with_reducible rfl)
          (try simp only [Act.put, List.setIfInBounds_toArray, List.set_cons_zero, List.set_cons_succ])
          refine take_want (i := 30) (v := ?v30k2) rfl (by kernel_rfl) (by kernel_rfl) (by kernel_rfl) (fun _ _ _ h => h) (by rfl) ?y30k2 (by assumption) ?r30k2
          case y30k2 => (intro w hSw; go_simp; all_goals with_reducible rfl)
          (try simp only [Act.put, List.setIfInBounds_toArray, List.set_cons_zero, List.set_cons_succ])
          refine wpAnyH_ready (rs := [28]) (by kernel_rfl) (by simp) ?_
          refine AllReadyH.cons rfl (fun K hK => ?_) AllReadyH.nil
          go_simp
          (go_at_call 19; refine (bytes_any p D _ (HPZ.out.keep hHeld) HLE2.out HS100.out).mono ?_; rintro e w10 ⟨A7, c7, rfl, hr7, _, _, hb⟩; obtain ⟨b7, o7, rfl⟩ := hr7.head (bytesD_pos _))
          refine hK.out _ _ (bthen hHeld hb) (fun hHeld => ?_)
          clear hK K
          (try simp only [Act.put, List.setIfInBounds_toArray, List.set_cons_zero, List.set_cons_succ])
          refine wpAnyH_sub (S' := fun w' => Below wz.heap.size wz w' ∧ Row w' (some ⟨b7, o7, none⟩) ((bytesD D).map (Value.int .u8))) (fun _ h => h.1) _ _ _ _ ?_
          have hHeld2 := (⟨hHeld, hr7⟩ : (fun w' => Below wz.heap.size wz w' ∧ Row w' (some ⟨b7, o7, none⟩) ((bytesD D).map (Value.int .u8))) w10)
          clear hHeld
          refine take_want (i := 29) (v := .string qq) rfl (by kernel_rfl) (by kernel_rfl) (by kernel_rfl) (fun _ _ _ h => h) (by rfl) ?y29k2 (by assumption) ?r29k2
          case y29k2 => (intro w hSw; have cv := conv_q (c := c7) (n := (bytesD D).length) hSw.2 rfl HQQ.out; go_simp; all_goals first | exact cv | with_reducible rfl)
          (try simp only [Act.put, List.setIfInBounds_toArray, List.set_cons_zero, List.set_cons_succ])
          refine wpAnyH_ready (rs := [31]) (by kernel_rfl) (by simp) ?_
          refine AllReadyH.cons rfl (fun K hK => ?_) AllReadyH.nil
          go_simp
          (go_at_call 20; refine (refbytes_any Am k cm D _ (HRM.out.keep (Nat.le_refl _) hHeld2.1) HK.out (by omega) HS100.out).mono ?_; rintro e w11 ⟨A8, c8, rfl, hr8, _, _, hb⟩; obtain ⟨b8, o8, rfl⟩ := hr8.head (bytesD_pos _))
          refine hK.out _ _ (⟨bthen hHeld2.1 hb, hHeld2.2.keep (Nat.le_refl _) hb⟩) (fun hHeld => ?_)
          clear hK K
          (try simp only [Act.put, List.setIfInBounds_toArray, List.set_cons_zero, List.set_cons_succ])
          refine wpAnyH_sub (S' := fun w' => (Below wz.heap.size wz w' ∧ Row w' (some ⟨b7, o7, none⟩) ((bytesD D).map (Value.int .u8))) ∧ Row w' (some ⟨b8, o8, none⟩) ((bytesD D).map (Value.int .u8))) (fun _ h => h.1) _ _ _ _ ?_
          have hHeld3 := (⟨hHeld, hr8⟩ : (fun w' => (Below wz.heap.size wz w' ∧ Row w' (some ⟨b7, o7, none⟩) ((bytesD D).map (Value.int .u8))) ∧ Row w' (some ⟨b8, o8, none⟩) ((bytesD D).map (Value.int .u8))) w11)
          clear hHeld hHeld2
          refine take_want (i := 32) (v := .string qq) rfl (by kernel_rfl) (by kernel_rfl) (by kernel_rfl) (fun _ _ _ h => h) (by rfl) ?y32k2 (by assumption) ?r32k2
          case y32k2 => (intro w hSw; have cv := conv_q (c := c8) (n := (bytesD D).length) hSw.2 rfl HQQ.out; go_simp; all_goals first | exact cv | with_reducible rfl)
          (try simp only [Act.put, List.setIfInBounds_toArray, List.set_cons_zero, List.set_cons_succ])
          refine take_want (i := 33) (v := .bool true) rfl (by kernel_rfl) (by kernel_rfl) (by kernel_rfl) (fun _ _ _ h => h) (by rfl) ?y33k2 (by assumption) ?r33k2
          case y33k2 => (intro w hSw; go_simp; all_goals first | rfl | simp)
          (try simp only [Act.put, List.setIfInBounds_toArray, List.set_cons_zero, List.set_cons_succ])
          refine take_want (i := 34) (v := ?v34k2) rfl (by kernel_rfl) (by kernel_rfl) (by kernel_rfl) (fun _ _ _ h => h) (by rfl) ?y34k2 (by assumption) ?r34k2
          case y34k2 => (intro w hSw; go_simp; all_goals with_reducible rfl)
          (try simp only [Act.put, List.setIfInBounds_toArray, List.set_cons_zero, List.set_cons_succ])
          refine take_want (i := 35) (v := ?v35k2) rfl (by kernel_rfl) (by kernel_rfl) (by kernel_rfl) (fun _ _ _ h => h) (by rfl) ?y35k2 (by assumption) ?r35k2
          case y35k2 => (intro w hSw; go_simp; all_goals with_reducible rfl)
          (try simp only [Act.put, List.setIfInBounds_toArray, List.set_cons_zero, List.set_cons_succ])
          refine wpAnyH_done (by kernel_rfl) ?_ _
          have hfin := bthen HBZ.out hHeld3.1.1
          go_wp2_with fail
          go_ret
          exact ⟨rfl, hfin⟩
        · have g0 : decide (0 ≤ i) = true := by simp; omega
          have g0' : 0 ≤ i := by omega
          have g1 : decide (i < (k : Int)) = false := by simp; omega
          clear hi h0
          go_wp2_with fail
          refine (text_no p D i _ HPZ.out HNO.out).mono ?_
          rintro e w5 ⟨rfl, rfl⟩
          go_wp2_with fail
          refine wp_region_held_drew (S := fun w' => Below wz.heap.size wz w') (by kernel_rfl) (below_drewN (Below.refl _ _) 1) ?_
          intro hHeld
          refine wpAnyH_ready (rs := [0]) (by kernel_rfl) (by simp) ?_
          refine AllReadyH.cons rfl (fun K hK => ?_) AllReadyH.nil
          go_simp
          (go_at_call 9; refine (alive_any _).mono ?_; rintro e w6 ⟨rfl, hb⟩)
          refine hK.out _ _ (bthen hHeld hb) (fun hHeld => ?_)
          clear hK K
          (try simp only [Act.put, List.setIfInBounds_toArray, List.set_cons_zero, List.set_cons_succ])
          refine take_want (i := 1) (v := ?v1k3) rfl (by kernel_rfl) (by kernel_rfl) (by kernel_rfl) (fun _ _ _ h => h) (by rfl) ?y1k3 (by assumption) ?r1k3
          case y1k3 => (intro w hSw; go_simp; all_goals with_reducible rfl)
          (try simp only [Act.put, List.setIfInBounds_toArray, List.set_cons_zero, List.set_cons_succ])
          refine take_want (i := 2) (v := ?v2k3) rfl (by kernel_rfl) (by kernel_rfl) (by kernel_rfl) (fun _ _ _ h => h) (by rfl) ?y2k3 (by assumption) ?r2k3
          case y2k3 => (intro w hSw; go_simp; all_goals with_reducible rfl)
          (try simp only [Act.put, List.setIfInBounds_toArray, List.set_cons_zero, List.set_cons_succ])
          refine take_want (i := 4) (v := ?v4k3) rfl (by kernel_rfl) (by kernel_rfl) (by kernel_rfl) (fun _ _ _ h => h) (by rfl) ?y4k3 (by assumption) ?r4k3
          case y4k3 => (intro w hSw; go_simp; all_goals with_reducible rfl)
          (try simp only [Act.put, List.setIfInBounds_toArray, List.set_cons_zero, List.set_cons_succ])
          refine wpAnyH_ready (rs := [3]) (by kernel_rfl) (by simp) ?_
          refine AllReadyH.cons rfl (fun K hK => ?_) AllReadyH.nil
          go_simp
          (go_at_call 16; refine (texts_any p D _ (HPZ.out.keep hHeld) HLE2.out).mono ?_; rintro e w7 ⟨A5, c5, rfl, hr5, hc5, hn5, hb⟩; have HR5 := Lib.hid hr5; rw [← HK.out]; clear hr5 hc5 hn5)
          refine hK.out _ _ (bthen hHeld hb) (fun hHeld => ?_)
          clear hK K
          (try simp only [Act.put, List.setIfInBounds_toArray, List.set_cons_zero, List.set_cons_succ])
          refine wpAnyH_ready (rs := [5]) (by kernel_rfl) (by simp) ?_
          refine AllReadyH.cons rfl (fun K hK => ?_) AllReadyH.nil
          go_simp
          (go_at_call 12; refine (sametexts_any A5 Am k c5 k cm D D _ HR5.out (HRM.out.keep (Nat.le_refl _) hHeld) HK.out HK.out (by omega) (by omega) true ⟨fun _ => rfl, fun _ => rfl⟩).mono ?_; rintro e w8 ⟨rfl, hb⟩)
          refine hK.out _ _ (bthen hHeld hb) (fun hHeld => ?_)
          clear hK K
          (try simp only [Act.put, List.setIfInBounds_toArray, List.set_cons_zero, List.set_cons_succ])
          refine take_want (i := 6) (v := ?v6k3) rfl (by kernel_rfl) (by kernel_rfl) (by kernel_rfl) (fun _ _ _ h => h) (by rfl) ?y6k3 (by assumption) ?r6k3
          case y6k3 => (intro w hSw; go_simp; all_goals with_reducible rfl)
          (try simp only [Act.put, List.setIfInBounds_toArray, List.set_cons_zero, List.set_cons_succ])
          refine take_want (i := 7) (v := ?v7k3) rfl (by kernel_rfl) (by kernel_rfl) (by kernel_rfl) (fun _ _ _ h => h) (by rfl) ?y7k3 (by assumption) ?r7k3
          case y7k3 => (intro w hSw; go_simp; all_goals with_reducible rfl)
          (try simp only [Act.put, List.setIfInBounds_toArray, List.set_cons_zero, List.set_cons_succ])
          refine take_want (i := 8) (v := ?v8k3) rfl (by kernel_rfl) (by kernel_rfl) (by kernel_rfl) (fun _ _ _ h => h) (by rfl) ?y8k3 (by assumption) ?r8k3
          case y8k3 => (intro w hSw; go_simp; all_goals with_reducible rfl)
          (try simp only [Act.put, List.setIfInBounds_toArray, List.set_cons_zero, List.set_cons_succ])
          refine take_want (i := 9) (v := ?v9k3) rfl (by kernel_rfl) (by kernel_rfl) (by kernel_rfl) (fun _ _ _ h => h) (by rfl) ?y9k3 (by assumption) ?r9k3
          case y9k3 => (intro w hSw; go_simp; all_goals with_reducible rfl)
          (try simp only [Act.put, List.setIfInBounds_toArray, List.set_cons_zero, List.set_cons_succ])
          refine take_want (i := 10) (v := .bool true) rfl (by kernel_rfl) (by kernel_rfl) (by kernel_rfl) (fun _ _ _ h => h) (by rfl) ?y10k3 (by assumption) ?r10k3
          case y10k3 => (intro w hSw; go_simp; all_goals first | rfl | simp)
          (try simp only [Act.put, List.setIfInBounds_toArray, List.set_cons_zero, List.set_cons_succ])
          refine take_want (i := 11) (v := ?v11k3) rfl (by kernel_rfl) (by kernel_rfl) (by kernel_rfl) (fun _ _ _ h => h) (by rfl) ?y11k3 (by assumption) ?r11k3
          case y11k3 => (intro w hSw; go_simp; all_goals with_reducible rfl)
          (try simp only [Act.put, List.setIfInBounds_toArray, List.set_cons_zero, List.set_cons_succ])
          refine take_want (i := 12) (v := ?v12k3) rfl (by kernel_rfl) (by kernel_rfl) (by kernel_rfl) (fun _ _ _ h => h) (by rfl) ?y12k3 (by assumption) ?r12k3
          case y12k3 => (intro w hSw; go_simp; all_goals with_reducible rfl)
          (try simp only [Act.put, List.setIfInBounds_toArray, List.set_cons_zero, List.set_cons_succ])
          refine take_want (i := 13) (v := ?v13k3) rfl (by kernel_rfl) (by kernel_rfl) (by kernel_rfl) (fun _ _ _ h => h) (by rfl) ?y13k3 (by assumption) ?r13k3
          case y13k3 => (intro w hSw; go_simp; all_goals with_reducible rfl)
          (try simp only [Act.put, List.setIfInBounds_toArray, List.set_cons_zero, List.set_cons_succ])
          refine take_want (i := 14) (v := ?v14k3) rfl (by kernel_rfl) (by kernel_rfl) (by kernel_rfl) (fun _ _ _ h => h) (by rfl) ?y14k3 (by assumption) ?r14k3
          case y14k3 => (intro w hSw; go_simp; all_goals with_reducible rfl)
          (try simp only [Act.put, List.setIfInBounds_toArray, List.set_cons_zero, List.set_cons_succ])
          refine take_want (i := 15) (v := .bool true) rfl (by kernel_rfl) (by kernel_rfl) (by kernel_rfl) (fun _ _ _ h => h) (by rfl) ?y15k3 (by assumption) ?r15k3
          case y15k3 => (intro w hSw; go_simp; all_goals first | rfl | simp)
          (try simp only [Act.put, List.setIfInBounds_toArray, List.set_cons_zero, List.set_cons_succ])
          refine take_want (i := 16) (v := ?v16k3) rfl (by kernel_rfl) (by kernel_rfl) (by kernel_rfl) (fun _ _ _ h => h) (by rfl) ?y16k3 (by assumption) ?r16k3
          case y16k3 => (intro w hSw; go_simp; all_goals with_reducible rfl)
          (try simp only [Act.put, List.setIfInBounds_toArray, List.set_cons_zero, List.set_cons_succ])
          refine take_want (i := 17) (v := ?v17k3) rfl (by kernel_rfl) (by kernel_rfl) (by kernel_rfl) (fun _ _ _ h => h) (by rfl) ?y17k3 (by assumption) ?r17k3
          case y17k3 => (intro w hSw; go_simp; all_goals with_reducible rfl)
          (try simp only [Act.put, List.setIfInBounds_toArray, List.set_cons_zero, List.set_cons_succ])
          refine take_want (i := 18) (v := ?v18k3) rfl (by kernel_rfl) (by kernel_rfl) (by kernel_rfl) (fun _ _ _ h => h) (by rfl) ?y18k3 (by assumption) ?r18k3
          case y18k3 => (intro w hSw; go_simp; all_goals with_reducible rfl)
          (try simp only [Act.put, List.setIfInBounds_toArray, List.set_cons_zero, List.set_cons_succ])
          refine take_want (i := 19) (v := ?v19k3) rfl (by kernel_rfl) (by kernel_rfl) (by kernel_rfl) (fun _ _ _ h => h) (by rfl) ?y19k3 (by assumption) ?r19k3
          case y19k3 => (intro w hSw; go_simp; all_goals with_reducible rfl)
          (try simp only [Act.put, List.setIfInBounds_toArray, List.set_cons_zero, List.set_cons_succ])
          refine take_want (i := 21) (v := ?v21k3) rfl (by kernel_rfl) (by kernel_rfl) (by kernel_rfl) (fun _ _ _ h => h) (by rfl) ?y21k3 (by assumption) ?r21k3
          case y21k3 => (intro w hSw; go_simp; all_goals with_reducible rfl)
          (try simp only [Act.put, List.setIfInBounds_toArray, List.set_cons_zero, List.set_cons_succ])
          refine take_want (i := 22) (v := ?v22k3) rfl (by kernel_rfl) (by kernel_rfl) (by kernel_rfl) (fun _ _ _ h => h) (by rfl) ?y22k3 (by assumption) ?r22k3
          case y22k3 => (intro w hSw; go_simp; all_goals with_reducible rfl)
          (try simp only [Act.put, List.setIfInBounds_toArray, List.set_cons_zero, List.set_cons_succ])
          refine wpAnyH_ready (rs := [20]) (by kernel_rfl) (by simp) ?_
          refine AllReadyH.cons rfl (fun K hK => ?_) AllReadyH.nil
          go_simp
          (go_at_call 17; refine (upto_any p D s _ (HPZ.out.keep hHeld) HLE3.out HRS.out).mono ?_; rintro e w9 ⟨rfl, rfl⟩)
          refine hK.out _ _ (hHeld) (fun hHeld => ?_)
          clear hK K
          (try simp only [Act.put, List.setIfInBounds_toArray, List.set_cons_zero, List.set_cons_succ])
          refine wpAnyH_ready (rs := [23]) (by kernel_rfl) (by simp) ?_
          refine AllReadyH.cons rfl (fun K hK => ?_) AllReadyH.nil
          go_simp
          (go_at_call 18; refine (refupto_any Am k cm D s _ (HRM.out.keep (Nat.le_refl _) hHeld) HK.out (by omega) HRS.out).mono ?_; rintro e w9 ⟨rfl, rfl⟩)
          refine hK.out _ _ (hHeld) (fun hHeld => ?_)
          clear hK K
          (try simp only [Act.put, List.setIfInBounds_toArray, List.set_cons_zero, List.set_cons_succ])
          refine take_want (i := 24) (v := .bool true) rfl (by kernel_rfl) (by kernel_rfl) (by kernel_rfl) (fun _ _ _ h => h) (by rfl) ?y24k3 (by assumption) ?r24k3
          case y24k3 => (intro w hSw; go_simp; all_goals first | rfl | simp)
          (try simp only [Act.put, List.setIfInBounds_toArray, List.set_cons_zero, List.set_cons_succ])
          refine take_want (i := 25) (v := ?v25k3) rfl (by kernel_rfl) (by kernel_rfl) (by kernel_rfl) (fun _ _ _ h => h) (by rfl) ?y25k3 (by assumption) ?r25k3
          case y25k3 => (intro w hSw; go_simp; all_goals with_reducible rfl)
          (try simp only [Act.put, List.setIfInBounds_toArray, List.set_cons_zero, List.set_cons_succ])
          refine take_want (i := 26) (v := ?v26k3) rfl (by kernel_rfl) (by kernel_rfl) (by kernel_rfl) (fun _ _ _ h => h) (by rfl) ?y26k3 (by assumption) ?r26k3
          case y26k3 => (intro w hSw; go_simp; all_goals with_reducible rfl)
          (try simp only [Act.put, List.setIfInBounds_toArray, List.set_cons_zero, List.set_cons_succ])
          refine take_want (i := 27) (v := ?v27k3) rfl (by kernel_rfl) (by kernel_rfl) (by kernel_rfl) (fun _ _ _ h => h) (by rfl) ?y27k3 (by assumption) ?r27k3
          case y27k3 => (intro w hSw; go_simp; all_goals with_reducible rfl)
          (try simp only [Act.put, List.setIfInBounds_toArray, List.set_cons_zero, List.set_cons_succ])
          refine take_want (i := 30) (v := ?v30k3) rfl (by kernel_rfl) (by kernel_rfl) (by kernel_rfl) (fun _ _ _ h => h) (by rfl) ?y30k3 (by assumption) ?r30k3
          case y30k3 => (intro w hSw; go_simp; all_goals with_reducible rfl)
          (try simp only [Act.put, List.setIfInBounds_toArray, List.set_cons_zero, List.set_cons_succ])
          refine wpAnyH_ready (rs := [28]) (by kernel_rfl) (by simp) ?_
          refine AllReadyH.cons rfl (fun K hK => ?_) AllReadyH.nil
          go_simp
          (go_at_call 19; refine (bytes_any p D _ (HPZ.out.keep hHeld) HLE2.out HS100.out).mono ?_; rintro e w10 ⟨A7, c7, rfl, hr7, _, _, hb⟩; obtain ⟨b7, o7, rfl⟩ := hr7.head (bytesD_pos _))
          refine hK.out _ _ (bthen hHeld hb) (fun hHeld => ?_)
          clear hK K
          (try simp only [Act.put, List.setIfInBounds_toArray, List.set_cons_zero, List.set_cons_succ])
          refine wpAnyH_sub (S' := fun w' => Below wz.heap.size wz w' ∧ Row w' (some ⟨b7, o7, none⟩) ((bytesD D).map (Value.int .u8))) (fun _ h => h.1) _ _ _ _ ?_
          have hHeld2 := (⟨hHeld, hr7⟩ : (fun w' => Below wz.heap.size wz w' ∧ Row w' (some ⟨b7, o7, none⟩) ((bytesD D).map (Value.int .u8))) w10)
          clear hHeld
          refine take_want (i := 29) (v := .string qq) rfl (by kernel_rfl) (by kernel_rfl) (by kernel_rfl) (fun _ _ _ h => h) (by rfl) ?y29k3 (by assumption) ?r29k3
          case y29k3 => (intro w hSw; have cv := conv_q (c := c7) (n := (bytesD D).length) hSw.2 rfl HQQ.out; go_simp; all_goals first | exact cv | with_reducible rfl)
          (try simp only [Act.put, List.setIfInBounds_toArray, List.set_cons_zero, List.set_cons_succ])
          refine wpAnyH_ready (rs := [31]) (by kernel_rfl) (by simp) ?_
          refine AllReadyH.cons rfl (fun K hK => ?_) AllReadyH.nil
          go_simp
          (go_at_call 20; refine (refbytes_any Am k cm D _ (HRM.out.keep (Nat.le_refl _) hHeld2.1) HK.out (by omega) HS100.out).mono ?_; rintro e w11 ⟨A8, c8, rfl, hr8, _, _, hb⟩; obtain ⟨b8, o8, rfl⟩ := hr8.head (bytesD_pos _))
          refine hK.out _ _ (⟨bthen hHeld2.1 hb, hHeld2.2.keep (Nat.le_refl _) hb⟩) (fun hHeld => ?_)
          clear hK K
          (try simp only [Act.put, List.setIfInBounds_toArray, List.set_cons_zero, List.set_cons_succ])
          refine wpAnyH_sub (S' := fun w' => (Below wz.heap.size wz w' ∧ Row w' (some ⟨b7, o7, none⟩) ((bytesD D).map (Value.int .u8))) ∧ Row w' (some ⟨b8, o8, none⟩) ((bytesD D).map (Value.int .u8))) (fun _ h => h.1) _ _ _ _ ?_
          have hHeld3 := (⟨hHeld, hr8⟩ : (fun w' => (Below wz.heap.size wz w' ∧ Row w' (some ⟨b7, o7, none⟩) ((bytesD D).map (Value.int .u8))) ∧ Row w' (some ⟨b8, o8, none⟩) ((bytesD D).map (Value.int .u8))) w11)
          clear hHeld hHeld2
          refine take_want (i := 32) (v := .string qq) rfl (by kernel_rfl) (by kernel_rfl) (by kernel_rfl) (fun _ _ _ h => h) (by rfl) ?y32k3 (by assumption) ?r32k3
          case y32k3 => (intro w hSw; have cv := conv_q (c := c8) (n := (bytesD D).length) hSw.2 rfl HQQ.out; go_simp; all_goals first | exact cv | with_reducible rfl)
          (try simp only [Act.put, List.setIfInBounds_toArray, List.set_cons_zero, List.set_cons_succ])
          refine take_want (i := 33) (v := .bool true) rfl (by kernel_rfl) (by kernel_rfl) (by kernel_rfl) (fun _ _ _ h => h) (by rfl) ?y33k3 (by assumption) ?r33k3
          case y33k3 => (intro w hSw; go_simp; all_goals first | rfl | simp)
          (try simp only [Act.put, List.setIfInBounds_toArray, List.set_cons_zero, List.set_cons_succ])
          refine take_want (i := 34) (v := ?v34k3) rfl (by kernel_rfl) (by kernel_rfl) (by kernel_rfl) (fun _ _ _ h => h) (by rfl) ?y34k3 (by assumption) ?r34k3
          case y34k3 => (intro w hSw; go_simp; all_goals with_reducible rfl)
          (try simp only [Act.put, List.setIfInBounds_toArray, List.set_cons_zero, List.set_cons_succ])
          refine take_want (i := 35) (v := ?v35k3) rfl (by kernel_rfl) (by kernel_rfl) (by kernel_rfl) (fun _ _ _ h => h) (by rfl) ?y35k3 (by assumption) ?r35k3
          case y35k3 => (intro w hSw; go_simp; all_goals with_reducible rfl)
          (try simp only [Act.put, List.setIfInBounds_toArray, List.set_cons_zero, List.set_cons_succ])
          refine wpAnyH_done (by kernel_rfl) ?_ _
          have hfin := bthen HBZ.out hHeld3.1.1
          go_wp2_with fail
          go_ret
          exact ⟨rfl, hfin⟩
end Go.Proofs.Ytgegmbkjkiifaaa
