/- The document's Parse. -/
import Derived.Test.YtgegmbkjkiifaaaZH
import Derived.Test.YtgegmbkjkiifaaaGM
import Derived.Test.YtgegmbkjkiifaaaGU
import Derived.Test.YtgegmbkjkiifaaaP
import Derived.Deep.QuietTactic
import Derived.BigQuiet

import Derived.Deep.RegionHeld3
namespace Go.Proofs.Ytgegmbkjkiifaaa
open Go.RowKit Go.Lib
set_option linter.unusedSimpArgs false
set_option linter.unusedVariables false
theorem Bx.of_cells {w : World} {mb : Nat} {V : Value} (h : w.heap[mb]? = some (.cells #[V, .int .i64 0, .bool false] 73)) (hz : ∀ o, w.frozen? ⟨mb, o, none⟩ = false) : Bx w mb V 0 false := by
  refine ⟨by simp [World.cell?, h], by simp [World.cell?, h], by simp [World.cell?, h], fun o => ⟨hz o, fun ho => ?_⟩⟩
  simp [World.cell?, h]
  omega
theorem rowx_of {w w' : World} {A : Option Addr} {bs : List Int} {mb : Nat} (hA : Row w A (bs.map (Value.int .u8))) (hB : Below w.heap.size w w') (hm : w.heap.size ≤ mb) : RowX w' mb A bs := by
  have hA' := hA.keep (Nat.le_refl _) hB
  rcases hA' with h | ⟨b, off, rfl, hc⟩
  · exact .inl (List.map_eq_nil_iff.1 h)
  · rcases Nat.eq_zero_or_pos bs.length with h0 | h0
    · exact .inl (List.length_eq_zero_iff.1 h0)
    · obtain ⟨b2, o2, e, c2⟩ := hA.cell (i := 0) h0
      cases e
      have := lt_of_cell c2
      exact .inr ⟨b, off, rfl, by omega, hc⟩
def RParsePost (w : World) (bs : List Int) (e : Ending) (w' : World) : Prop :=
  (∃ D A c, acc bs D ∧ e = .returned (.tuple #[.slice A D.length c, .int .i64 0]) ∧ Row w' A (texts D) ∧ Below w.heap.size w w') ∨
  ((∀ D, ¬ acc bs D) ∧ e = .returned (.tuple #[.slice none 0 0, .int .i64 61]) ∧ Below w.heap.size w w')
set_option maxRecDepth 100000 in
set_option maxHeartbeats 60000000 in
theorem refparse_any (A : Option Addr) (n c : Nat) (bs : List Int) (w : World) (hA : Row w A (bs.map (Value.int .u8))) (hn : n = bs.length) (hnc : n ≤ c) (hnil : A = none → c = 0) (hb : bytes bs) (hl : n ≤ 400) :
    Calls Try.prog 22 #[.slice A n c] w (RParsePost w bs) := by
  obtain ⟨i0, hi0, hz0, hz1, hz2⟩ := info_parts info9
  have HA := Lib.hid hA
  have HZ := Lib.hid hn
  have HBY := Lib.hid hb
  have HN := Lib.hid hnil
  have hn6 : n ≤ 1000000 := by omega
  clear hA hn hb hnil
  have HX := Lib.hid (show Bx (w.alloc (.cells #[.slice A n c, .int .i64 0, .bool false] 73)) w.heap.size (.slice A n c) 0 false from
      Bx.of_cells (by show (w.heap.push _)[w.heap.size]? = _; exact Array.getElem?_push_size) (fun o => by simp))
  have HB2 := Lib.hid (show Below w.heap.size w (w.alloc (.cells #[.slice A n c, .int .i64 0, .bool false] 73)) from bpush (Below.refl _ _) _)
  have HRX0 := Lib.hid (show RowX w w.heap.size A bs from rowx_of HA.out (Below.refl _ _) (Nat.le_refl _))
  have HRX2 := Lib.hid (rowx_of HA.out HB2.out (Nat.le_refl _))
  have hsz2 : (w.alloc (.cells #[.slice A n c, .int .i64 0, .bool false] 73)).heap.size = w.heap.size + 1 := by simp
  obtain ⟨w2, hw2⟩ : ∃ w2, w2 = w.alloc (.cells #[.slice A n c, .int .i64 0, .bool false] 73) := ⟨_, rfl⟩
  rw [← hw2] at HX HB2 HRX2 hsz2
  have HW2 := Lib.hid hw2
  clear hw2
  go_enter Try.func22, Try.ntmps22
  go_wp2_with fail
  rw [← HW2.out]
  refine (refn_any w.heap.size A n c 0 false bs 0 65536 _ HX.out HRX2.out.row hn6 HZ.out (Nat.zero_le _) HBY.out).mono ?_
  rintro e w3 ⟨N', I1, b1, hN1, rfl, hX3, hG3⟩
  have hb1 := hN1.bd (by omega) (by omega)
  obtain ⟨m, rfl⟩ := Int.eq_ofNat_of_zero_le hb1.1
  have hm9 : m ≤ 65536 := by omega
  have HI1 := Lib.hid (show I1 ≤ n by rw [HZ.out]; exact hN1.le (Nat.zero_le _))
  have HN1 := Lib.hid hN1
  have HX3 := Lib.hid hX3
  have HB3 := Lib.hid (grown_below hG3 HB2.out (Nat.le_refl _))
  have HRX3 := Lib.hid (HRX2.out.far hG3)
  have hsz3 : w.heap.size + 1 ≤ w3.heap.size := by have := hG3.size; omega
  have HST := Lib.hid (show b1 = false → readD bs = readL m ⟨#[]⟩ (bs.drop I1) by
    intro hb
    rcases HN1.out with ⟨e1, p1, p2, q1, q2, _⟩ | ⟨_, _, _, h⟩
    · rw [List.drop_zero, Nat.sub_zero] at e1
      unfold readD; rw [e1]; simp only []; rw [if_neg (by omega)]; simp
    · rw [hb] at h; cases h)
  have HBD := Lib.hid (show b1 = true → m = 0 ∧ ∀ D, ¬ acc bs D by
    intro hb
    rcases HN1.out with ⟨_, _, _, _, _, h⟩ | ⟨h1, h2, _, _⟩
    · rw [hb] at h; cases h
    · rw [List.drop_zero] at h1
      exact ⟨by omega, no_acc (by unfold readD; simp only []; rw [if_pos h1])⟩)
  clear hN1 hX3 hG3 hb1
  go_wp2_with fail
  go_loopw [6, 7, 8, 9, 10, 11] (fun v pv i jj sv okv wr => ∃ (k : Nat) (L : List ByteArray) (J : Nat) (b : Bool), k ≤ m ∧ i = .int .i64 k ∧ pv = .string (lastT ⟨#[]⟩ L) ∧ Hid (wr.ownsRow w3.heap.size 9 1 v k (texts L)) ∧ Hid (Bx wr w.heap.size (.slice A n c) J b) ∧ Hid (RowX wr w.heap.size A bs) ∧ J ≤ n ∧ Hid (Below w.heap.size w wr) ∧ w3.heap.size ≤ wr.heap.size ∧ Hid (L.length = k) ∧ Hid (b = false → readL k ⟨#[]⟩ (bs.drop I1) = some (L, bs.drop J)) ∧ Hid (rising L) ∧ Hid (∀ s ∈ L, fitsT s) ∧ Hid (b = true → ∀ D, ¬ acc bs D) ∧ Hid (b = false → b1 = false)) (fun _ _ i _ _ _ _ => m - (intOf i).toNat)
  case atStart => exact ⟨0, [], I1, b1, Nat.zero_le _, rfl, rfl, Lib.hid (World.ownsRow_nil _ _ _ _), HX3, HRX3, HI1.out, HB3, Nat.le_refl _, Lib.hid rfl, Lib.hid (fun _ => rfl), Lib.hid List.Pairwise.nil, Lib.hid (fun s hs => by cases hs), Lib.hid (fun h => (HBD.out h).2), Lib.hid (fun h => h)⟩
  case round =>
    obtain ⟨k, L, J, b, hk, rfl, rfl, HO, HXR, HRX, hJ, HBW, hsz, HLEN, HRL, HRI, HFT, HNA, HB1⟩ := hrel
    obtain ⟨x0, x1, x2, x3⟩ := HXR.out
    by_cases hgo : k < m ∧ b = false
    · obtain ⟨hlt, rfl⟩ := hgo
      have hki : (k : Int) < (m : Int) := by omega
      obtain ⟨a, ha⟩ : ∃ a, a = lastT ⟨#[]⟩ L := ⟨_, rfl⟩
      have HAA := Lib.hid ha
      have ha24 : a.size ≤ 24 := by
        rw [ha]; unfold lastT
        cases hg : L.getLast? with
        | none => show (⟨#[]⟩ : ByteArray).size ≤ 24; decide
        | some x => exact (HFT.out x (List.mem_of_getLast? hg)).2
      rw [← ha]
      obtain ⟨la, hla⟩ : ∃ la, la = a.size := ⟨_, rfl⟩
      have hla2 : a.size = la := hla.symm
      have hla24 : la ≤ 24 := by omega
      clear ha hla
      go_wp2_with fail
      refine (refn_any w.heap.size A n c J false bs 0 (la : Int) _ HXR.out HRX.out.row hn6 HZ.out hJ HBY.out).mono ?_
      rintro e w4 ⟨j', J2, b2, hN2, rfl, hX4, hG4⟩
      have hb2 := hN2.bd (by omega) (by omega)
      obtain ⟨j, rfl⟩ := Int.eq_ofNat_of_zero_le hb2.1
      have hjla : j ≤ la := by omega
      have hja : j ≤ a.size := by omega
      have HN2 := Lib.hid hN2
      have hJ2 : J2 ≤ n := by have := hN2.le (by rw [← HZ.out]; exact hJ); rw [← HZ.out] at this; exact this
      have HX4 := Lib.hid hX4
      have HRX4 := Lib.hid (HRX.out.far hG4)
      have HB4 := Lib.hid (grown_below hG4 HBW.out (Nat.le_refl _))
      have HO4 := Lib.hid (own_other HO.out hG4 (by omega))
      have hsz4 : w3.heap.size ≤ w4.heap.size := Nat.le_trans hsz hG4.size
      clear hN2 hX4 hG4 hb2
      have hsl : ∀ W, Sem.run Try.prog (Instr.slice 9 (.string a) none (some (.int .i64 (j : Int))) none) W = .ok (.string (a.extract 0 j)) W := fun W => slice_to a j hja W
      go_wp2_with fail
      refine wp_region_held_drew (S := fun _ => True) (by kernel_rfl) (trivial) ?_
      intro hHeld
      refine take_want (i := 0) (v := ?v0k1) rfl (by kernel_rfl) (by kernel_rfl) (by kernel_rfl) (fun _ _ _ h => h) (by rfl) ?y0k1 (by assumption) ?r0k1
      case y0k1 => (intro w hSw; go_simp; all_goals with_reducible rfl)
      (try simp only [Act.put, List.setIfInBounds_toArray, List.set_cons_zero, List.set_cons_succ])
      refine take_want (i := 1) (v := ?v1k1) rfl (by kernel_rfl) (by kernel_rfl) (by kernel_rfl) (fun _ _ _ h => h) (by rfl) ?y1k1 (by assumption) ?r1k1
      case y1k1 => (intro w hSw; go_simp; all_goals with_reducible rfl)
      (try simp only [Act.put, List.setIfInBounds_toArray, List.set_cons_zero, List.set_cons_succ])
      refine take_want (i := 2) (v := .string (a.extract 0 j)) rfl (by kernel_rfl) (by kernel_rfl) (by kernel_rfl) (fun _ _ _ h => h) (by rfl) ?y2k1 (by assumption) ?r2k1
      case y2k1 => (intro w hSw; go_simp; all_goals first | exact hsl _ | with_reducible rfl)
      (try simp only [Act.put, List.setIfInBounds_toArray, List.set_cons_zero, List.set_cons_succ])
      refine take_want (i := 3) (v := ?v3k1) rfl (by kernel_rfl) (by kernel_rfl) (by kernel_rfl) (fun _ _ _ h => h) (by rfl) ?y3k1 (by assumption) ?r3k1
      case y3k1 => (intro w hSw; go_simp; all_goals with_reducible rfl)
      (try simp only [Act.put, List.setIfInBounds_toArray, List.set_cons_zero, List.set_cons_succ])
      refine wpAnyH_ready (rs := [4]) (by kernel_rfl) (by simp) ?_
      refine AllReadyH.cons rfl (fun K hK => ?_) AllReadyH.nil
      go_simp
      (go_at_call 43; refine (reft_any w.heap.size A n c J2 b2 bs 24 _ (HX4.out.drew 1) (show RowX (w4.drewN 1) w.heap.size A bs from HRX4.out.keep (grown_drewN w4 1 none) (fun _ _ _ => by simp)) HN.out hnc hn6 HZ.out hJ2 HBY.out).mono ?_; rintro e w6 ⟨s0, J3, b3, hT, rfl, hX6, hG6⟩; obtain ⟨s, hs⟩ : ∃ s, s = a.extract 0 j ++ s0 := ⟨_, rfl⟩; have hgl : a.extract 0 j ++ s0 = s := hs.symm; have HS := Lib.hid hs; clear hs; have hT24 := tx24 hT)
      refine hK.out _ _ (trivial) (fun hHeld => ?_)
      clear hK K
      (try simp only [Act.put, List.setIfInBounds_toArray, List.set_cons_zero, List.set_cons_succ])
      refine take_want (i := 5) (v := .string s) rfl (by kernel_rfl) (by kernel_rfl) (by kernel_rfl) (fun _ _ _ h => h) (by rfl) ?y5k1 (by assumption) ?r5k1
      case y5k1 => (intro w hSw; go_simp; all_goals first | (with_reducible rfl) | omega)
      (try simp only [Act.put, List.setIfInBounds_toArray, List.set_cons_zero, List.set_cons_succ])
      refine take_want (i := 6) (v := ?v6k1) rfl (by kernel_rfl) (by kernel_rfl) (by kernel_rfl) (fun _ _ _ h => h) (by rfl) ?y6k1 (by assumption) ?r6k1
      case y6k1 => (intro w hSw; go_simp; all_goals with_reducible rfl)
      (try simp only [Act.put, List.setIfInBounds_toArray, List.set_cons_zero, List.set_cons_succ])
      refine wpAnyH_done (by kernel_rfl) ?_ _
      have hJ3 : J3 ≤ n := by rcases hT with ⟨l, t, _, _, _, h, _, rfl, _⟩ | ⟨_, _, rfl, _⟩ <;> (have := HZ.out; omega)
      obtain ⟨q, hq⟩ := bool_of (fitsT s)
      have HQ := Lib.hid hq
      have HT := Lib.hid hT
      have HX6 := Lib.hid hX6
      have HRX6 := Lib.hid ((show RowX (w4.drewN 1) w.heap.size A bs from HRX4.out.keep (grown_drewN w4 1 none) (fun _ _ _ => by simp)).far hG6)
      have HB6 := Lib.hid (grown_below hG6 (below_drewN HB4.out 1) (Nat.le_refl _))
      have HO6 := Lib.hid (own_other (show (w4.drewN 1).ownsRow w3.heap.size 9 1 u6 k (texts L) from own_other HO4.out (grown_drewN w4 1 (some w.heap.size)) (by omega)) hG6 (by show w.heap.size < w3.heap.size; omega))
      have hsz6 : w3.heap.size ≤ w6.heap.size := Nat.le_trans hsz4 hG6.size
      clear hq hT hX6 hG6
      go_wp2_with fail
      refine (reffits_any s _ q HQ.out).mono ?_
      rintro e w7 ⟨rfl, rfl⟩
      have HST6 := Lib.hid (read_step HN2.out hla2 HT.out HS.out)
      cases q with
      | false =>
        have HFS := Lib.hid (show ¬ fitsT s from fun h => by have := HQ.out.2 h; cases this)
        have HNO := Lib.hid (no_acc_step (J3 := J3) (s := s) (HST.out (HB1.out (by trivial))) hlt (HRL.out (by trivial)) HAA.out HST6.out (.inr (.inl HFS.out)))
        go_wp2_with fail
        go_ret2
        exact .inr ⟨HNO.out, rfl, HB6.out⟩
      | true =>
        have HFS := Lib.hid (HQ.out.1 rfl)
        by_cases h0 : 0 < k
        · have d0 : decide ((0 : Int) < (k : Int)) = true := by simp; omega
          have dn0 : decide (0 < k) = true := by simp; omega
          by_cases hls : ltT a s
          · have hlq := leq_no hls
            have HLS := Lib.hid hls
            clear h0 hls
            go_wp2_with (at_builtin; refine wpList_append_own _ rfl _ _ 22 rfl w3.heap.size 9 i0 (.string ⟨#[]⟩) 1 16 Try.underlying22 hi0 hz0 hz1 hz2 rfl (by decide) _ _ _ rfl (HO6.out.alloc _) ⟨w6.heap.size, 0, none⟩ 1 1 [.string s] rfl rfl ?c1a ?c2a ?c3a ?c4a ?c5a ?_)
            case c1a => intro j u hj; match j, hj with | 0, hj => simp at hj; subst hj; simp [Addr.add]
            case c2a => intro u hu; simp at hu; subst hu; rfl
            case c3a => unfold maxLen; omega
            case c4a => omega
            case c5a => simp; omega
            intro v5 w7 ho5 hg5 _
            have hb45 : Below w3.heap.size w6 w7 := ((Below.refl _ w6).alloc hsz6 _).trans (grown_own (HO6.out.alloc _) hg5 (by simp; omega))
            have HO7 := Lib.hid (show w7.ownsRow w3.heap.size 9 1 v5 (k + 1) (texts (L ++ [s])) by rw [← texts_append]; exact ho5)
            have HX7 := Lib.hid (HX6.out.under hb45 (by omega))
            have HB7 := Lib.hid (show Below w.heap.size w w7 from HB6.out.trans (hb45.mono (by omega)))
            have HRX7 := Lib.hid (HRX0.out.under HB7.out)
            have hsz7 : w3.heap.size ≤ w7.heap.size := Nat.le_trans hsz6 hb45.size
            have HS7 := Lib.hid (show Value.string s = .string (lastT ⟨#[]⟩ (L ++ [s])) by rw [lastT_snoc])
            have HRI7 := Lib.hid (show rising (L ++ [s]) from rising_snoc HRI.out (.inr (by rw [← HAA.out]; exact HLS.out)))
            clear ho5 hg5 hb45 hgl hsl
            go_wp2_with fail
            go_roundw
            case rel => exact ⟨k + 1, L ++ [s], J3, b3, by omega, by go_num, HS7.out, HO7, HX7, HRX7, hJ3, HB7, hsz7, Lib.hid (by rw [List.length_append, HLEN.out]; rfl), Lib.hid (fun hb => by
              rcases HST6.out with ⟨_, h2⟩ | ⟨h1, _⟩
              · exact readL_snoc _ _ _ _ _ _ _ (HRL.out (by trivial)) (by rw [← HAA.out]; exact h2)
              · rw [hb] at h1; cases h1), HRI7, Lib.hid (fun x hx => by rcases List.mem_append.1 hx with h | h; exact HFT.out x h; simp at h; subst h; exact HFS.out), Lib.hid (fun hb => no_acc_step (HST.out (HB1.out (by trivial))) hlt (HRL.out (by trivial)) HAA.out HST6.out (.inl hb)), Lib.hid (fun _ => HB1.out (by trivial))⟩
            case measure => simp [intOf]; omega
          · have hlq := leq_yes hls
            have HLS := Lib.hid hls
            have H0 := Lib.hid h0
            clear h0 hls
            have HNO := Lib.hid (no_acc_step (J3 := J3) (s := s) (HST.out (HB1.out (by trivial))) hlt (HRL.out (by trivial)) HAA.out HST6.out (.inr (.inr ⟨H0.out, HLS.out⟩)))
            go_wp2_with fail
            go_ret2
            exact .inr ⟨HNO.out, rfl, HB6.out⟩
        · have d0 : decide ((0 : Int) < (k : Int)) = false := by simp; omega
          have dn0 : decide (0 < k) = false := by simp; omega
          have HL0 := Lib.hid (show L = [] from List.eq_nil_of_length_eq_zero (by have := HLEN.out; omega))
          clear h0
          go_wp2_with (at_builtin; refine wpList_append_own _ rfl _ _ 22 rfl w3.heap.size 9 i0 (.string ⟨#[]⟩) 1 16 Try.underlying22 hi0 hz0 hz1 hz2 rfl (by decide) _ _ _ rfl (HO6.out.alloc _) ⟨w6.heap.size, 0, none⟩ 1 1 [.string s] rfl rfl ?c1b ?c2b ?c3b ?c4b ?c5b ?_)
          case c1b => intro j u hj; match j, hj with | 0, hj => simp at hj; subst hj; simp [Addr.add]
          case c2b => intro u hu; simp at hu; subst hu; rfl
          case c3b => unfold maxLen; omega
          case c4b => omega
          case c5b => simp; omega
          intro v5 w7 ho5 hg5 _
          have hb45 : Below w3.heap.size w6 w7 := ((Below.refl _ w6).alloc hsz6 _).trans (grown_own (HO6.out.alloc _) hg5 (by simp; omega))
          have HO7 := Lib.hid (show w7.ownsRow w3.heap.size 9 1 v5 (k + 1) (texts (L ++ [s])) by rw [← texts_append]; exact ho5)
          have HX7 := Lib.hid (HX6.out.under hb45 (by omega))
          have HB7 := Lib.hid (show Below w.heap.size w w7 from HB6.out.trans (hb45.mono (by omega)))
          have HRX7 := Lib.hid (HRX0.out.under HB7.out)
          have hsz7 : w3.heap.size ≤ w7.heap.size := Nat.le_trans hsz6 hb45.size
          have HS7 := Lib.hid (show Value.string s = .string (lastT ⟨#[]⟩ (L ++ [s])) by rw [lastT_snoc])
          have HRI7 := Lib.hid (show rising (L ++ [s]) from rising_snoc HRI.out (.inl HL0.out))
          clear ho5 hg5 hb45 hgl hsl
          go_wp2_with fail
          go_roundw
          case rel => exact ⟨k + 1, L ++ [s], J3, b3, by omega, by go_num, HS7.out, HO7, HX7, HRX7, hJ3, HB7, hsz7, Lib.hid (by rw [List.length_append, HLEN.out]; rfl), Lib.hid (fun hb => by
            rcases HST6.out with ⟨_, h2⟩ | ⟨h1, _⟩
            · exact readL_snoc _ _ _ _ _ _ _ (HRL.out (by trivial)) (by rw [← HAA.out]; exact h2)
            · rw [hb] at h1; cases h1), HRI7, Lib.hid (fun x hx => by rcases List.mem_append.1 hx with h | h; exact HFT.out x h; simp at h; subst h; exact HFS.out), Lib.hid (fun hb => no_acc_step (HST.out (HB1.out (by trivial))) hlt (HRL.out (by trivial)) HAA.out HST6.out (.inl hb)), Lib.hid (fun _ => HB1.out (by trivial))⟩
          case measure => simp [intOf]; omega
    · by_cases hb : b = true
      · subst hb
        have HNO := Lib.hid (HNA.out (by trivial))
        by_cases hlt : k < m
        · have hki : (k : Int) < (m : Int) := by omega
          clear hlt hgo
          go_wp2_with fail
          refine wp_region_held_drew (S := fun w' => Below wr.heap.size wr w') (by kernel_rfl) (below_drewN (Below.refl _ _) 1) ?_
          intro hHeld
          refine take_want (i := 0) (v := ?v0k2) rfl (by kernel_rfl) (by kernel_rfl) (by kernel_rfl) (fun _ _ _ h => h) (by rfl) ?y0k2 (by assumption) ?r0k2
          case y0k2 => (intro w hSw; go_simp; all_goals with_reducible rfl)
          (try simp only [Act.put, List.setIfInBounds_toArray, List.set_cons_zero, List.set_cons_succ])
          refine wpAnyH_ready (rs := [1]) (by kernel_rfl) (by simp) ?_
          refine AllReadyH.cons rfl (fun K hK => ?_) AllReadyH.nil
          go_simp
          (go_at_call 44; refine (whole_any w.heap.size A n c J _ _ (HXR.out.drew 1) false ⟨fun h => (by cases h), fun h => (by cases h.1)⟩).mono ?_; rintro e w5 ⟨rfl, z, rfl⟩)
          refine hK.out _ _ (below_drewN hHeld z) (fun hHeld => ?_)
          clear hK K
          (try simp only [Act.put, List.setIfInBounds_toArray, List.set_cons_zero, List.set_cons_succ])
          refine take_want (i := 2) (v := ?v2k2) rfl (by kernel_rfl) (by kernel_rfl) (by kernel_rfl) (fun _ _ _ h => h) (by rfl) ?y2k2 (by assumption) ?r2k2
          case y2k2 => (intro w hSw; go_simp; all_goals with_reducible rfl)
          (try simp only [Act.put, List.setIfInBounds_toArray, List.set_cons_zero, List.set_cons_succ])
          refine take_want (i := 3) (v := ?v3k2) rfl (by kernel_rfl) (by kernel_rfl) (by kernel_rfl) (fun _ _ _ h => h) (by rfl) ?y3k2 (by assumption) ?r3k2
          case y3k2 => (intro w hSw; go_simp; all_goals with_reducible rfl)
          (try simp only [Act.put, List.setIfInBounds_toArray, List.set_cons_zero, List.set_cons_succ])
          refine take_skip (i := 4) rfl (by kernel_rfl) (by kernel_rfl) (by kernel_rfl) (fun _ _ _ h => h) (by rfl) (by assumption) ?_
          (try simp only [Act.put, List.setIfInBounds_toArray, List.set_cons_zero, List.set_cons_succ])
          refine take_skip (i := 5) rfl (by kernel_rfl) (by kernel_rfl) (by kernel_rfl) (fun _ _ _ h => h) (by rfl) (by assumption) ?_
          (try simp only [Act.put, List.setIfInBounds_toArray, List.set_cons_zero, List.set_cons_succ])
          refine take_skip (i := 6) rfl (by kernel_rfl) (by kernel_rfl) (by kernel_rfl) (fun _ _ _ h => h) (by rfl) (by assumption) ?_
          (try simp only [Act.put, List.setIfInBounds_toArray, List.set_cons_zero, List.set_cons_succ])
          refine take_skip (i := 7) rfl (by kernel_rfl) (by kernel_rfl) (by kernel_rfl) (fun _ _ _ h => h) (by rfl) (by assumption) ?_
          (try simp only [Act.put, List.setIfInBounds_toArray, List.set_cons_zero, List.set_cons_succ])
          refine take_skip (i := 8) rfl (by kernel_rfl) (by kernel_rfl) (by kernel_rfl) (fun _ _ _ h => h) (by rfl) (by assumption) ?_
          (try simp only [Act.put, List.setIfInBounds_toArray, List.set_cons_zero, List.set_cons_succ])
          refine take_skip (i := 9) rfl (by kernel_rfl) (by kernel_rfl) (by kernel_rfl) (fun _ _ _ h => h) (by rfl) (by assumption) ?_
          (try simp only [Act.put, List.setIfInBounds_toArray, List.set_cons_zero, List.set_cons_succ])
          refine take_want (i := 10) (v := .bool true) rfl (by kernel_rfl) (by kernel_rfl) (by kernel_rfl) (fun _ _ _ h => h) (by rfl) ?y10k2 (by assumption) ?r10k2
          case y10k2 => (intro w hSw; go_simp; all_goals first | rfl | simp)
          (try simp only [Act.put, List.setIfInBounds_toArray, List.set_cons_zero, List.set_cons_succ])
          refine wpAnyH_done (by kernel_rfl) ?_ _
          have hfin := bthen HBW.out hHeld
          go_wp2_with fail
          go_ret2
          exact .inr ⟨HNO.out, rfl, hfin⟩
        · have hki : ¬ (k : Int) < (m : Int) := by omega
          clear hlt hgo
          go_wp2_with fail
          refine wp_region_held_drew (S := fun w' => Below wr.heap.size wr w') (by kernel_rfl) (below_drewN (Below.refl _ _) 1) ?_
          intro hHeld
          refine take_want (i := 0) (v := ?v0k3) rfl (by kernel_rfl) (by kernel_rfl) (by kernel_rfl) (fun _ _ _ h => h) (by rfl) ?y0k3 (by assumption) ?r0k3
          case y0k3 => (intro w hSw; go_simp; all_goals with_reducible rfl)
          (try simp only [Act.put, List.setIfInBounds_toArray, List.set_cons_zero, List.set_cons_succ])
          refine wpAnyH_ready (rs := [1]) (by kernel_rfl) (by simp) ?_
          refine AllReadyH.cons rfl (fun K hK => ?_) AllReadyH.nil
          go_simp
          (go_at_call 44; refine (whole_any w.heap.size A n c J _ _ (HXR.out.drew 1) false ⟨fun h => (by cases h), fun h => (by cases h.1)⟩).mono ?_; rintro e w5 ⟨rfl, z, rfl⟩)
          refine hK.out _ _ (below_drewN hHeld z) (fun hHeld => ?_)
          clear hK K
          (try simp only [Act.put, List.setIfInBounds_toArray, List.set_cons_zero, List.set_cons_succ])
          refine take_want (i := 2) (v := ?v2k3) rfl (by kernel_rfl) (by kernel_rfl) (by kernel_rfl) (fun _ _ _ h => h) (by rfl) ?y2k3 (by assumption) ?r2k3
          case y2k3 => (intro w hSw; go_simp; all_goals with_reducible rfl)
          (try simp only [Act.put, List.setIfInBounds_toArray, List.set_cons_zero, List.set_cons_succ])
          refine take_want (i := 3) (v := ?v3k3) rfl (by kernel_rfl) (by kernel_rfl) (by kernel_rfl) (fun _ _ _ h => h) (by rfl) ?y3k3 (by assumption) ?r3k3
          case y3k3 => (intro w hSw; go_simp; all_goals with_reducible rfl)
          (try simp only [Act.put, List.setIfInBounds_toArray, List.set_cons_zero, List.set_cons_succ])
          refine take_skip (i := 4) rfl (by kernel_rfl) (by kernel_rfl) (by kernel_rfl) (fun _ _ _ h => h) (by rfl) (by assumption) ?_
          (try simp only [Act.put, List.setIfInBounds_toArray, List.set_cons_zero, List.set_cons_succ])
          refine take_skip (i := 5) rfl (by kernel_rfl) (by kernel_rfl) (by kernel_rfl) (fun _ _ _ h => h) (by rfl) (by assumption) ?_
          (try simp only [Act.put, List.setIfInBounds_toArray, List.set_cons_zero, List.set_cons_succ])
          refine take_skip (i := 6) rfl (by kernel_rfl) (by kernel_rfl) (by kernel_rfl) (fun _ _ _ h => h) (by rfl) (by assumption) ?_
          (try simp only [Act.put, List.setIfInBounds_toArray, List.set_cons_zero, List.set_cons_succ])
          refine take_skip (i := 7) rfl (by kernel_rfl) (by kernel_rfl) (by kernel_rfl) (fun _ _ _ h => h) (by rfl) (by assumption) ?_
          (try simp only [Act.put, List.setIfInBounds_toArray, List.set_cons_zero, List.set_cons_succ])
          refine take_skip (i := 8) rfl (by kernel_rfl) (by kernel_rfl) (by kernel_rfl) (fun _ _ _ h => h) (by rfl) (by assumption) ?_
          (try simp only [Act.put, List.setIfInBounds_toArray, List.set_cons_zero, List.set_cons_succ])
          refine take_skip (i := 9) rfl (by kernel_rfl) (by kernel_rfl) (by kernel_rfl) (fun _ _ _ h => h) (by rfl) (by assumption) ?_
          (try simp only [Act.put, List.setIfInBounds_toArray, List.set_cons_zero, List.set_cons_succ])
          refine take_want (i := 10) (v := .bool true) rfl (by kernel_rfl) (by kernel_rfl) (by kernel_rfl) (fun _ _ _ h => h) (by rfl) ?y10k3 (by assumption) ?r10k3
          case y10k3 => (intro w hSw; go_simp; all_goals first | rfl | simp)
          (try simp only [Act.put, List.setIfInBounds_toArray, List.set_cons_zero, List.set_cons_succ])
          refine wpAnyH_done (by kernel_rfl) ?_ _
          have hfin := bthen HBW.out hHeld
          go_wp2_with fail
          go_ret2
          exact .inr ⟨HNO.out, rfl, hfin⟩
      · obtain rfl : b = false := by cases b <;> simp_all
        obtain rfl : k = m := by
          by_cases h : k < m
          · exact absurd ⟨h, rfl⟩ hgo
          · omega
        have hki : ¬ (k : Int) < (k : Int) := by omega
        have HRD := Lib.hid (show readD bs = some (L, bs.drop J) by rw [HST.out (HB1.out (by trivial))]; exact HRL.out (by trivial))
        by_cases hJn : J = n
        · have HRE := Lib.hid (show readD bs = some (L, []) by have h := HRD.out; rw [List.drop_eq_nil_of_le (by rw [← HZ.out]; omega)] at h; exact h)
          have HJN := Lib.hid hJn
          obtain ⟨A9, c9, rfl, h1, h2, h3⟩ := own_slice HO.out
          have HR9 := Lib.hid h1
          have HS100 := Lib.hid (show ∀ s ∈ L, s.size ≤ 100 from fun s hs => by have := (HFT.out s hs).2; omega)
          have HAB := Lib.hid (HA.out.keep (Nat.le_refl _) HBW.out)
          obtain ⟨b0, o0, hA0⟩ := HAB.out.head (readD_pos HRE.out)
          subst hA0
          clear hJn h1 hgo hb
          by_cases he : bytesD L = bs
          · have HACC := Lib.hid (acc_self HRE.out HRI.out HFT.out he)
            obtain ⟨q1, hq1⟩ : ∃ q, q = strOfNums (bytesD L) := ⟨_, rfl⟩
            have HQ1 := Lib.hid hq1
            have HQ2 := Lib.hid (show q1 = strOfNums bs by rw [hq1, he])
            clear hq1 he
            go_wp2_with fail
            refine wp_region_held_drew (S := fun w' => Below wr.heap.size wr w') (by kernel_rfl) (below_drewN (Below.refl _ _) 1) ?_
            intro hHeld
            refine take_want (i := 0) (v := ?v0k4) rfl (by kernel_rfl) (by kernel_rfl) (by kernel_rfl) (fun _ _ _ h => h) (by rfl) ?y0k4 (by assumption) ?r0k4
            case y0k4 => (intro w hSw; go_simp; all_goals with_reducible rfl)
            (try simp only [Act.put, List.setIfInBounds_toArray, List.set_cons_zero, List.set_cons_succ])
            refine wpAnyH_ready (rs := [1]) (by kernel_rfl) (by simp) ?_
            refine AllReadyH.cons rfl (fun K hK => ?_) AllReadyH.nil
            go_simp
            (go_at_call 44; refine (whole_any w.heap.size _ n c J _ _ (HXR.out.drew 1) true ⟨fun _ => ⟨rfl, HJN.out⟩, fun _ => rfl⟩).mono ?_; rintro e w5 ⟨rfl, z, rfl⟩)
            refine hK.out _ _ (below_drewN hHeld z) (fun hHeld => ?_)
            clear hK K
            (try simp only [Act.put, List.setIfInBounds_toArray, List.set_cons_zero, List.set_cons_succ])
            refine take_want (i := 2) (v := ?v2k4) rfl (by kernel_rfl) (by kernel_rfl) (by kernel_rfl) (fun _ _ _ h => h) (by rfl) ?y2k4 (by assumption) ?r2k4
            case y2k4 => (intro w hSw; go_simp; all_goals with_reducible rfl)
            (try simp only [Act.put, List.setIfInBounds_toArray, List.set_cons_zero, List.set_cons_succ])
            refine take_want (i := 3) (v := ?v3k4) rfl (by kernel_rfl) (by kernel_rfl) (by kernel_rfl) (fun _ _ _ h => h) (by rfl) ?y3k4 (by assumption) ?r3k4
            case y3k4 => (intro w hSw; go_simp; all_goals with_reducible rfl)
            (try simp only [Act.put, List.setIfInBounds_toArray, List.set_cons_zero, List.set_cons_succ])
            refine take_want (i := 4) (v := ?v4k4) rfl (by kernel_rfl) (by kernel_rfl) (by kernel_rfl) (fun _ _ _ h => h) (by rfl) ?y4k4 (by assumption) ?r4k4
            case y4k4 => (intro w hSw; go_simp; all_goals with_reducible rfl)
            (try simp only [Act.put, List.setIfInBounds_toArray, List.set_cons_zero, List.set_cons_succ])
            refine take_want (i := 7) (v := ?v7k4) rfl (by kernel_rfl) (by kernel_rfl) (by kernel_rfl) (fun _ _ _ h => h) (by rfl) ?y7k4 (by assumption) ?r7k4
            case y7k4 => (intro w hSw; go_simp; all_goals with_reducible rfl)
            (try simp only [Act.put, List.setIfInBounds_toArray, List.set_cons_zero, List.set_cons_succ])
            refine take_want (i := 8) (v := .string q1) rfl (by kernel_rfl) (by kernel_rfl) (by kernel_rfl) (fun _ _ _ h => h) (by rfl) ?y8k4 (by assumption) ?r8k4
            case y8k4 => (intro w hSw; have cv := conv_q (c := c) (n := n) (HAB.out.keep (Nat.le_refl _) hSw) HZ.out HQ2.out; go_simp; all_goals first | exact cv | with_reducible rfl)
            (try simp only [Act.put, List.setIfInBounds_toArray, List.set_cons_zero, List.set_cons_succ])
            refine wpAnyH_ready (rs := [5]) (by kernel_rfl) (by simp) ?_
            refine AllReadyH.cons rfl (fun K hK => ?_) AllReadyH.nil
            go_simp
            (go_at_call 20; refine (refbytes_any A9 k c9 L _ (HR9.out.keep (Nat.le_refl _) (below_drewN (Below.refl _ _) _)) HLEN.out.symm (by omega) HS100.out).mono ?_; rintro e w6 ⟨A7, c7, rfl, hr7, _, _, hb⟩; obtain ⟨b7, o7, rfl⟩ := hr7.head (bytesD_pos _))
            refine hK.out _ _ (bthen (below_drewN (Below.refl _ _) _) hb) (fun hHeld => ?_)
            clear hK K
            (try simp only [Act.put, List.setIfInBounds_toArray, List.set_cons_zero, List.set_cons_succ])
            refine wpAnyH_sub (S' := fun w' => Below wr.heap.size wr w' ∧ Row w' (some ⟨b7, o7, none⟩) ((bytesD L).map (Value.int .u8))) (fun _ h => h.1) _ _ _ _ ?_
            have hHeld2 := (⟨hHeld, hr7⟩ : (fun w' => Below wr.heap.size wr w' ∧ Row w' (some ⟨b7, o7, none⟩) ((bytesD L).map (Value.int .u8))) w6)
            clear hHeld
            refine take_want (i := 6) (v := .string q1) rfl (by kernel_rfl) (by kernel_rfl) (by kernel_rfl) (fun _ _ _ h => h) (by rfl) ?y6k4 (by assumption) ?r6k4
            case y6k4 => (intro w hSw; have cv := conv_q (c := c7) (n := (bytesD L).length) hSw.2 rfl HQ1.out; go_simp; all_goals first | exact cv | with_reducible rfl)
            (try simp only [Act.put, List.setIfInBounds_toArray, List.set_cons_zero, List.set_cons_succ])
            refine take_want (i := 9) (v := .bool false) rfl (by kernel_rfl) (by kernel_rfl) (by kernel_rfl) (fun _ _ _ h => h) (by rfl) ?y9k4 (by assumption) ?r9k4
            case y9k4 => (intro w hSw; go_simp; all_goals first | rfl | simp)
            (try simp only [Act.put, List.setIfInBounds_toArray, List.set_cons_zero, List.set_cons_succ])
            refine take_want (i := 10) (v := .bool false) rfl (by kernel_rfl) (by kernel_rfl) (by kernel_rfl) (fun _ _ _ h => h) (by rfl) ?y10k4 (by assumption) ?r10k4
            case y10k4 => (intro w hSw; go_simp; all_goals first | rfl | simp)
            (try simp only [Act.put, List.setIfInBounds_toArray, List.set_cons_zero, List.set_cons_succ])
            refine wpAnyH_done (by kernel_rfl) ?_ _
            have hfin := bthen HBW.out hHeld2.1
            have hrow := HR9.out.keep (Nat.le_refl _) hHeld2.1
            go_wp2_with fail
            go_ret2
            exact .inl ⟨L, A9, c9, HACC.out, (by rw [HLEN.out]; rfl), hrow, hfin⟩
          · have HNO := Lib.hid (no_acc_other HRE.out HRI.out he)
            obtain ⟨q1, hq1⟩ : ∃ q, q = strOfNums (bytesD L) := ⟨_, rfl⟩
            obtain ⟨q2, hq2⟩ : ∃ q, q = strOfNums bs := ⟨_, rfl⟩
            have HQ1 := Lib.hid hq1
            have HQ2 := Lib.hid hq2
            have hne : (q1.toList == q2.toList) = false := str_ne (fun h => he (str_inj (bytesD_bytes _) HBY.out (by rw [← hq1, ← hq2]; exact h)))
            clear hq1 hq2 he
            go_wp2_with fail
            refine wp_region_held_drew (S := fun w' => Below wr.heap.size wr w') (by kernel_rfl) (below_drewN (Below.refl _ _) 1) ?_
            intro hHeld
            refine take_want (i := 0) (v := ?v0k5) rfl (by kernel_rfl) (by kernel_rfl) (by kernel_rfl) (fun _ _ _ h => h) (by rfl) ?y0k5 (by assumption) ?r0k5
            case y0k5 => (intro w hSw; go_simp; all_goals with_reducible rfl)
            (try simp only [Act.put, List.setIfInBounds_toArray, List.set_cons_zero, List.set_cons_succ])
            refine wpAnyH_ready (rs := [1]) (by kernel_rfl) (by simp) ?_
            refine AllReadyH.cons rfl (fun K hK => ?_) AllReadyH.nil
            go_simp
            (go_at_call 44; refine (whole_any w.heap.size _ n c J _ _ (HXR.out.drew 1) true ⟨fun _ => ⟨rfl, HJN.out⟩, fun _ => rfl⟩).mono ?_; rintro e w5 ⟨rfl, z, rfl⟩)
            refine hK.out _ _ (below_drewN hHeld z) (fun hHeld => ?_)
            clear hK K
            (try simp only [Act.put, List.setIfInBounds_toArray, List.set_cons_zero, List.set_cons_succ])
            refine take_want (i := 2) (v := ?v2k5) rfl (by kernel_rfl) (by kernel_rfl) (by kernel_rfl) (fun _ _ _ h => h) (by rfl) ?y2k5 (by assumption) ?r2k5
            case y2k5 => (intro w hSw; go_simp; all_goals with_reducible rfl)
            (try simp only [Act.put, List.setIfInBounds_toArray, List.set_cons_zero, List.set_cons_succ])
            refine take_want (i := 3) (v := ?v3k5) rfl (by kernel_rfl) (by kernel_rfl) (by kernel_rfl) (fun _ _ _ h => h) (by rfl) ?y3k5 (by assumption) ?r3k5
            case y3k5 => (intro w hSw; go_simp; all_goals with_reducible rfl)
            (try simp only [Act.put, List.setIfInBounds_toArray, List.set_cons_zero, List.set_cons_succ])
            refine take_want (i := 4) (v := ?v4k5) rfl (by kernel_rfl) (by kernel_rfl) (by kernel_rfl) (fun _ _ _ h => h) (by rfl) ?y4k5 (by assumption) ?r4k5
            case y4k5 => (intro w hSw; go_simp; all_goals with_reducible rfl)
            (try simp only [Act.put, List.setIfInBounds_toArray, List.set_cons_zero, List.set_cons_succ])
            refine take_want (i := 7) (v := ?v7k5) rfl (by kernel_rfl) (by kernel_rfl) (by kernel_rfl) (fun _ _ _ h => h) (by rfl) ?y7k5 (by assumption) ?r7k5
            case y7k5 => (intro w hSw; go_simp; all_goals with_reducible rfl)
            (try simp only [Act.put, List.setIfInBounds_toArray, List.set_cons_zero, List.set_cons_succ])
            refine take_want (i := 8) (v := .string q2) rfl (by kernel_rfl) (by kernel_rfl) (by kernel_rfl) (fun _ _ _ h => h) (by rfl) ?y8k5 (by assumption) ?r8k5
            case y8k5 => (intro w hSw; have cv := conv_q (c := c) (n := n) (HAB.out.keep (Nat.le_refl _) hSw) HZ.out HQ2.out; go_simp; all_goals first | exact cv | with_reducible rfl)
            (try simp only [Act.put, List.setIfInBounds_toArray, List.set_cons_zero, List.set_cons_succ])
            refine wpAnyH_ready (rs := [5]) (by kernel_rfl) (by simp) ?_
            refine AllReadyH.cons rfl (fun K hK => ?_) AllReadyH.nil
            go_simp
            (go_at_call 20; refine (refbytes_any A9 k c9 L _ (HR9.out.keep (Nat.le_refl _) (below_drewN (Below.refl _ _) _)) HLEN.out.symm (by omega) HS100.out).mono ?_; rintro e w6 ⟨A7, c7, rfl, hr7, _, _, hb⟩; obtain ⟨b7, o7, rfl⟩ := hr7.head (bytesD_pos _))
            refine hK.out _ _ (bthen (below_drewN (Below.refl _ _) _) hb) (fun hHeld => ?_)
            clear hK K
            (try simp only [Act.put, List.setIfInBounds_toArray, List.set_cons_zero, List.set_cons_succ])
            refine wpAnyH_sub (S' := fun w' => Below wr.heap.size wr w' ∧ Row w' (some ⟨b7, o7, none⟩) ((bytesD L).map (Value.int .u8))) (fun _ h => h.1) _ _ _ _ ?_
            have hHeld2 := (⟨hHeld, hr7⟩ : (fun w' => Below wr.heap.size wr w' ∧ Row w' (some ⟨b7, o7, none⟩) ((bytesD L).map (Value.int .u8))) w6)
            clear hHeld
            refine take_want (i := 6) (v := .string q1) rfl (by kernel_rfl) (by kernel_rfl) (by kernel_rfl) (fun _ _ _ h => h) (by rfl) ?y6k5 (by assumption) ?r6k5
            case y6k5 => (intro w hSw; have cv := conv_q (c := c7) (n := (bytesD L).length) hSw.2 rfl HQ1.out; go_simp; all_goals first | exact cv | with_reducible rfl)
            (try simp only [Act.put, List.setIfInBounds_toArray, List.set_cons_zero, List.set_cons_succ])
            refine take_want (i := 9) (v := .bool true) rfl (by kernel_rfl) (by kernel_rfl) (by kernel_rfl) (fun _ _ _ h => h) (by rfl) ?y9k5 (by assumption) ?r9k5
            case y9k5 => (intro w hSw; go_simp; all_goals first | rfl | simp [hne])
            (try simp only [Act.put, List.setIfInBounds_toArray, List.set_cons_zero, List.set_cons_succ])
            refine take_want (i := 10) (v := .bool true) rfl (by kernel_rfl) (by kernel_rfl) (by kernel_rfl) (fun _ _ _ h => h) (by rfl) ?y10k5 (by assumption) ?r10k5
            case y10k5 => (intro w hSw; go_simp; all_goals first | rfl | simp)
            (try simp only [Act.put, List.setIfInBounds_toArray, List.set_cons_zero, List.set_cons_succ])
            refine wpAnyH_done (by kernel_rfl) ?_ _
            have hfin := bthen HBW.out hHeld2.1
            go_wp2_with fail
            go_ret2
            exact .inr ⟨HNO.out, rfl, hfin⟩
        · have HNO := Lib.hid (no_acc_left HRD.out (by intro h; have := congrArg List.length h; simp at this; have := HZ.out; omega))
          have HJN := Lib.hid hJn
          clear hJn hgo hb
          go_wp2_with fail
          refine wp_region_held_drew (S := fun w' => Below wr.heap.size wr w') (by kernel_rfl) (below_drewN (Below.refl _ _) 1) ?_
          intro hHeld
          refine take_want (i := 0) (v := ?v0k6) rfl (by kernel_rfl) (by kernel_rfl) (by kernel_rfl) (fun _ _ _ h => h) (by rfl) ?y0k6 (by assumption) ?r0k6
          case y0k6 => (intro w hSw; go_simp; all_goals with_reducible rfl)
          (try simp only [Act.put, List.setIfInBounds_toArray, List.set_cons_zero, List.set_cons_succ])
          refine wpAnyH_ready (rs := [1]) (by kernel_rfl) (by simp) ?_
          refine AllReadyH.cons rfl (fun K hK => ?_) AllReadyH.nil
          go_simp
          (go_at_call 44; refine (whole_any w.heap.size A n c J _ _ (HXR.out.drew 1) false ⟨fun h => (by cases h), fun h => absurd h.2 HJN.out⟩).mono ?_; rintro e w5 ⟨rfl, z, rfl⟩)
          refine hK.out _ _ (below_drewN hHeld z) (fun hHeld => ?_)
          clear hK K
          (try simp only [Act.put, List.setIfInBounds_toArray, List.set_cons_zero, List.set_cons_succ])
          refine take_want (i := 2) (v := ?v2k6) rfl (by kernel_rfl) (by kernel_rfl) (by kernel_rfl) (fun _ _ _ h => h) (by rfl) ?y2k6 (by assumption) ?r2k6
          case y2k6 => (intro w hSw; go_simp; all_goals with_reducible rfl)
          (try simp only [Act.put, List.setIfInBounds_toArray, List.set_cons_zero, List.set_cons_succ])
          refine take_want (i := 3) (v := ?v3k6) rfl (by kernel_rfl) (by kernel_rfl) (by kernel_rfl) (fun _ _ _ h => h) (by rfl) ?y3k6 (by assumption) ?r3k6
          case y3k6 => (intro w hSw; go_simp; all_goals with_reducible rfl)
          (try simp only [Act.put, List.setIfInBounds_toArray, List.set_cons_zero, List.set_cons_succ])
          refine take_skip (i := 4) rfl (by kernel_rfl) (by kernel_rfl) (by kernel_rfl) (fun _ _ _ h => h) (by rfl) (by assumption) ?_
          (try simp only [Act.put, List.setIfInBounds_toArray, List.set_cons_zero, List.set_cons_succ])
          refine take_skip (i := 5) rfl (by kernel_rfl) (by kernel_rfl) (by kernel_rfl) (fun _ _ _ h => h) (by rfl) (by assumption) ?_
          (try simp only [Act.put, List.setIfInBounds_toArray, List.set_cons_zero, List.set_cons_succ])
          refine take_skip (i := 6) rfl (by kernel_rfl) (by kernel_rfl) (by kernel_rfl) (fun _ _ _ h => h) (by rfl) (by assumption) ?_
          (try simp only [Act.put, List.setIfInBounds_toArray, List.set_cons_zero, List.set_cons_succ])
          refine take_skip (i := 7) rfl (by kernel_rfl) (by kernel_rfl) (by kernel_rfl) (fun _ _ _ h => h) (by rfl) (by assumption) ?_
          (try simp only [Act.put, List.setIfInBounds_toArray, List.set_cons_zero, List.set_cons_succ])
          refine take_skip (i := 8) rfl (by kernel_rfl) (by kernel_rfl) (by kernel_rfl) (fun _ _ _ h => h) (by rfl) (by assumption) ?_
          (try simp only [Act.put, List.setIfInBounds_toArray, List.set_cons_zero, List.set_cons_succ])
          refine take_skip (i := 9) rfl (by kernel_rfl) (by kernel_rfl) (by kernel_rfl) (fun _ _ _ h => h) (by rfl) (by assumption) ?_
          (try simp only [Act.put, List.setIfInBounds_toArray, List.set_cons_zero, List.set_cons_succ])
          refine take_want (i := 10) (v := .bool true) rfl (by kernel_rfl) (by kernel_rfl) (by kernel_rfl) (fun _ _ _ h => h) (by rfl) ?y10k6 (by assumption) ?r10k6
          case y10k6 => (intro w hSw; go_simp; all_goals first | rfl | simp)
          (try simp only [Act.put, List.setIfInBounds_toArray, List.set_cons_zero, List.set_cons_succ])
          refine wpAnyH_done (by kernel_rfl) ?_ _
          have hfin := bthen HBW.out hHeld
          go_wp2_with fail
          go_ret2
          exact .inr ⟨HNO.out, rfl, hfin⟩
end Go.Proofs.Ytgegmbkjkiifaaa
