/- DictParses' walk. -/
import Derived.Test.YtgegmbkjkiifaaaZG
import Derived.Test.YtgegmbkjkiifaaaJ
namespace Go.Proofs.Ytgegmbkjkiifaaa
open Go.RowKit Go.Lib
set_option linter.unusedSimpArgs false
set_option linter.unusedVariables false
set_option maxRecDepth 100000 in
set_option maxHeartbeats 60000000 in
theorem parses_walk (A : Option Addr) (n c : Nat) (bs : List Int) (w : World) (hA : Row w A (bs.map (Value.int .u8))) (hn : n = bs.length) (hnc : n ≤ c) (hnil : A = none → c = 0) (hb : bytes bs) (hmx : n ≤ 9223372036854775807) :
    Calls Try.prog 4 #[.slice A n c] w fun e w' => e = .returned (.bool true) ∧ Below w.heap.size w w' := by
  have HA := Lib.hid hA
  have HZ := Lib.hid hn
  have HBY := Lib.hid hb
  have HN := Lib.hid hnil
  clear hA hn hb hnil
  by_cases hbig : 400 < n
  · have hbi : (400 : Int) < (n : Int) := by omega
    go_enter Try.func4, Try.ntmps4
    go_wp2_with fail
    refine (alive_any _).mono ?_
    rintro e w2 ⟨rfl, hb⟩
    go_wp2_with fail
    go_ret
    exact ⟨rfl, hb⟩
  · have hl : n ≤ 400 := by omega
    have hbi : ¬ (400 : Int) < (n : Int) := by omega
    clear hbig
    go_enter Try.func4, Try.ntmps4
    go_wp2_with fail
    refine (parse_any A n c bs _ HA.out HZ.out hnc HN.out HBY.out hl).mono ?_
    rintro e w1 h
    rcases h with ⟨D, p, hacc, rfl, hp, hb⟩ | ⟨hno, rfl, hb⟩
    case inr =>
      have HB := Lib.hid hb
      have HNO := Lib.hid hno
      have HA1 := Lib.hid (HA.out.keep (Nat.le_refl _) hb)
      clear hb hno
      go_wp2_with fail
      refine (refparse_any A n c bs _ HA1.out HZ.out hnc HN.out HBY.out hl).mono ?_
      rintro e w2 h
      rcases h with ⟨D, A9, c9, hacc, rfl, hr, hb⟩ | ⟨hno, rfl, hb⟩
      case inl => exact absurd hacc (HNO.out D)
      case inr =>
        have HB2 := Lib.hid (bthen HB.out hb)
        clear hb hno
        go_wp2_with fail
        refine (alive_any _).mono ?_
        rintro e w3 ⟨rfl, hb⟩
        go_wp2_with fail
        go_ret
        exact ⟨rfl, bthen HB2.out hb⟩
    case inl =>
      have HB := Lib.hid hb
      have HACC := Lib.hid hacc
      have HP := Lib.hid hp
      have HA1 := Lib.hid (HA.out.keep (Nat.le_refl _) hb)
      clear hb hacc hp
      go_wp2_with fail
      refine (refparse_any A n c bs _ HA1.out HZ.out hnc HN.out HBY.out hl).mono ?_
      rintro e wz h
      rcases h with ⟨E, Am, cm, hacc, rfl, hr, hb⟩ | ⟨hno, rfl, hb⟩
      case inr => exact absurd HACC.out (hno D)
      case inl =>
        obtain rfl : D = E := acc_one HACC.out hacc
        obtain ⟨k, hk⟩ : ∃ k, k = D.length := ⟨_, rfl⟩
        rw [← hk]
        have HK := Lib.hid hk
        have HBZ := Lib.hid (bthen HB.out hb)
        have HPZ := Lib.hid (HP.out.keep hb)
        have HRM := Lib.hid hr
        have HAB := Lib.hid (HA1.out.keep (Nat.le_refl _) hb)
        obtain ⟨g1, g2, g3, g4⟩ := (acc_iff _ _).1 HACC.out
        have HLE2 := Lib.hid g3
        have hk6 : k ≤ 65536 := by omega
        have HS100 := Lib.hid (show ∀ s ∈ D, s.size ≤ 100 from fun s hs => by have := (g2 s hs).2; omega)
        obtain ⟨b0, o0, hA0⟩ := HAB.out.head (by rw [g4]; exact bytesD_pos _)
        subst hA0
        obtain ⟨q1, hq1⟩ : ∃ q, q = strOfNums (bytesD D) := ⟨_, rfl⟩
        have HQ1 := Lib.hid hq1
        have HQ2 := Lib.hid (show q1 = strOfNums bs by rw [hq1, ← g4])
        clear hk hb hr hacc g1 g2 g3 g4 hq1
        go_wp2_with fail
        refine wp_region_held_drew (S := fun w' => Below wz.heap.size wz w') (by kernel_rfl) (below_drewN (Below.refl _ _) 1) ?_
        intro hHeld
        refine wpAnyH_ready (rs := [0]) (by kernel_rfl) (by simp) ?_
        refine AllReadyH.cons rfl (fun K hK => ?_) AllReadyH.nil
        go_simp
        (go_at_call 9; refine (alive_any _).mono ?_; rintro e w6 ⟨rfl, hb⟩)
        refine hK.out _ _ (bthen hHeld hb) (fun hHeld => ?_)
        clear hK K
        (try simp only [Act.put, List.setIfInBounds_toArray, List.set_cons_zero, List.set_cons_succ])
        refine take_want (i := 1) (v := ?v1k1) rfl (by kernel_rfl) (by kernel_rfl) (by kernel_rfl) (fun _ _ _ h => h) (by rfl) ?y1k1 (by assumption) ?r1k1
        case y1k1 => (intro w hSw; go_simp; all_goals with_reducible rfl)
        (try simp only [Act.put, List.setIfInBounds_toArray, List.set_cons_zero, List.set_cons_succ])
        refine take_want (i := 2) (v := ?v2k1) rfl (by kernel_rfl) (by kernel_rfl) (by kernel_rfl) (fun _ _ _ h => h) (by rfl) ?y2k1 (by assumption) ?r2k1
        case y2k1 => (intro w hSw; go_simp; all_goals with_reducible rfl)
        (try simp only [Act.put, List.setIfInBounds_toArray, List.set_cons_zero, List.set_cons_succ])
        refine take_want (i := 4) (v := ?v4k1) rfl (by kernel_rfl) (by kernel_rfl) (by kernel_rfl) (fun _ _ _ h => h) (by rfl) ?y4k1 (by assumption) ?r4k1
        case y4k1 => (intro w hSw; go_simp; all_goals with_reducible rfl)
        (try simp only [Act.put, List.setIfInBounds_toArray, List.set_cons_zero, List.set_cons_succ])
        refine wpAnyH_ready (rs := [3]) (by kernel_rfl) (by simp) ?_
        refine AllReadyH.cons rfl (fun K hK => ?_) AllReadyH.nil
        go_simp
        (go_at_call 16; refine (texts_any p D _ (HPZ.out.keep hHeld) HLE2.out).mono ?_; rintro e w7 ⟨A5, c5, rfl, hr5, hc5, hn5, hb⟩; have HR5 := Lib.hid hr5; rw [← HK.out]; clear hr5 hc5 hn5)
        refine hK.out _ _ (bthen hHeld hb) (fun hHeld => ?_)
        clear hK K
        (try simp only [Act.put, List.setIfInBounds_toArray, List.set_cons_zero, List.set_cons_succ])
        refine wpAnyH_ready (rs := [5]) (by kernel_rfl) (by simp) ?_
        refine AllReadyH.cons rfl (fun K hK => ?_) AllReadyH.nil
        go_simp
        (go_at_call 12; refine (sametexts_any A5 Am k c5 k cm D D _ HR5.out (HRM.out.keep (Nat.le_refl _) hHeld) HK.out HK.out (by omega) (by omega) true ⟨fun _ => rfl, fun _ => rfl⟩).mono ?_; rintro e w8 ⟨rfl, hb⟩)
        refine hK.out _ _ (bthen hHeld hb) (fun hHeld => ?_)
        clear hK K
        (try simp only [Act.put, List.setIfInBounds_toArray, List.set_cons_zero, List.set_cons_succ])
        refine take_want (i := 6) (v := .bool true) rfl (by kernel_rfl) (by kernel_rfl) (by kernel_rfl) (fun _ _ _ h => h) (by rfl) ?y6k1 (by assumption) ?r6k1
        case y6k1 => (intro w hSw; go_simp; all_goals first | rfl | simp)
        (try simp only [Act.put, List.setIfInBounds_toArray, List.set_cons_zero, List.set_cons_succ])
        refine take_want (i := 7) (v := ?v7k1) rfl (by kernel_rfl) (by kernel_rfl) (by kernel_rfl) (fun _ _ _ h => h) (by rfl) ?y7k1 (by assumption) ?r7k1
        case y7k1 => (intro w hSw; go_simp; all_goals with_reducible rfl)
        (try simp only [Act.put, List.setIfInBounds_toArray, List.set_cons_zero, List.set_cons_succ])
        refine take_want (i := 8) (v := ?v8k1) rfl (by kernel_rfl) (by kernel_rfl) (by kernel_rfl) (fun _ _ _ h => h) (by rfl) ?y8k1 (by assumption) ?r8k1
        case y8k1 => (intro w hSw; go_simp; all_goals with_reducible rfl)
        (try simp only [Act.put, List.setIfInBounds_toArray, List.set_cons_zero, List.set_cons_succ])
        refine take_want (i := 11) (v := ?v11k1) rfl (by kernel_rfl) (by kernel_rfl) (by kernel_rfl) (fun _ _ _ h => h) (by rfl) ?y11k1 (by assumption) ?r11k1
        case y11k1 => (intro w hSw; go_simp; all_goals with_reducible rfl)
        (try simp only [Act.put, List.setIfInBounds_toArray, List.set_cons_zero, List.set_cons_succ])
        refine take_want (i := 12) (v := .string q1) rfl (by kernel_rfl) (by kernel_rfl) (by kernel_rfl) (fun _ _ _ h => h) (by rfl) ?y12k1 (by assumption) ?r12k1
        case y12k1 => (intro w hSw; have cv := conv_q (c := c) (n := n) (HAB.out.keep (Nat.le_refl _) hSw) HZ.out HQ2.out; go_simp; all_goals first | exact cv | with_reducible rfl)
        (try simp only [Act.put, List.setIfInBounds_toArray, List.set_cons_zero, List.set_cons_succ])
        refine wpAnyH_ready (rs := [9]) (by kernel_rfl) (by simp) ?_
        refine AllReadyH.cons rfl (fun K hK => ?_) AllReadyH.nil
        go_simp
        (go_at_call 19; refine (bytes_any p D _ (HPZ.out.keep hHeld) HLE2.out HS100.out).mono ?_; rintro e w10 ⟨A7, c7, rfl, hr7, _, _, hb⟩; obtain ⟨b7, o7, rfl⟩ := hr7.head (bytesD_pos _))
        refine hK.out _ _ (bthen hHeld hb) (fun hHeld => ?_)
        clear hK K
        (try simp only [Act.put, List.setIfInBounds_toArray, List.set_cons_zero, List.set_cons_succ])
        refine wpAnyH_sub (S' := fun w' => Below wz.heap.size wz w' ∧ Row w' (some ⟨b7, o7, none⟩) ((bytesD D).map (Value.int .u8))) (fun _ h => h.1) _ _ _ _ ?_
        have hHeld2 := (⟨hHeld, hr7⟩ : (fun w' => Below wz.heap.size wz w' ∧ Row w' (some ⟨b7, o7, none⟩) ((bytesD D).map (Value.int .u8))) w10)
        clear hHeld
        refine take_want (i := 10) (v := .string q1) rfl (by kernel_rfl) (by kernel_rfl) (by kernel_rfl) (fun _ _ _ h => h) (by rfl) ?y10k1 (by assumption) ?r10k1
        case y10k1 => (intro w hSw; have cv := conv_q (c := c7) (n := (bytesD D).length) hSw.2 rfl HQ1.out; go_simp; all_goals first | exact cv | with_reducible rfl)
        (try simp only [Act.put, List.setIfInBounds_toArray, List.set_cons_zero, List.set_cons_succ])
        refine take_want (i := 13) (v := .bool true) rfl (by kernel_rfl) (by kernel_rfl) (by kernel_rfl) (fun _ _ _ h => h) (by rfl) ?y13k1 (by assumption) ?r13k1
        case y13k1 => (intro w hSw; go_simp; all_goals first | rfl | simp)
        (try simp only [Act.put, List.setIfInBounds_toArray, List.set_cons_zero, List.set_cons_succ])
        refine take_want (i := 14) (v := .bool true) rfl (by kernel_rfl) (by kernel_rfl) (by kernel_rfl) (fun _ _ _ h => h) (by rfl) ?y14k1 (by assumption) ?r14k1
        case y14k1 => (intro w hSw; go_simp; all_goals first | rfl | simp)
        (try simp only [Act.put, List.setIfInBounds_toArray, List.set_cons_zero, List.set_cons_succ])
        refine take_want (i := 15) (v := ?v15k1) rfl (by kernel_rfl) (by kernel_rfl) (by kernel_rfl) (fun _ _ _ h => h) (by rfl) ?y15k1 (by assumption) ?r15k1
        case y15k1 => (intro w hSw; go_simp; all_goals with_reducible rfl)
        (try simp only [Act.put, List.setIfInBounds_toArray, List.set_cons_zero, List.set_cons_succ])
        refine wpAnyH_done (by kernel_rfl) ?_ _
        have hfin := bthen HBZ.out hHeld2.1
        go_wp2_with fail
        go_ret
        exact ⟨rfl, hfin⟩
end Go.Proofs.Ytgegmbkjkiifaaa
