/- A list, read of bytes. -/
import Derived.Test.YtedldajlioeioaaPH
namespace Go.Proofs.Ytedldajlioeioaa
open Go.RowKit
set_option linter.unusedSimpArgs false
set_option linter.unusedVariables false
def ReadL (w : World) (rb : Nat) (o : Option (List Int)) (e : Ending) (w' : World) : Prop :=
  (match o with
    | none => ∃ err : Int, err ≠ 0 ∧ e = .returned (.tuple #[.slice none 0 0, .int .i64 err])
    | some l => ∃ A c, e = .returned (.tuple #[.slice A l.length c, .int .i64 0]) ∧ Row w' A (l.map (Value.int .i64)) ∧ l.length ≤ c ∧ (A = none → c = 0)) ∧ w.grownBy w' (some rb)
theorem drop_byte {bs : List Int} (hb : bytes bs) (k : Nat) : bytes (bs.drop k) := fun x hx => hb x (List.mem_of_mem_drop hx)
theorem last_at : ∀ (l : List Int) (n : Nat), l.length = n + 1 → l[n]? = some (l.getLastD 0)
  | [], n, h => by simp at h
  | [a], n, h => by obtain rfl : n = 0 := by simpa using h.symm
                    rfl
  | a :: b :: l, n, h => by
    obtain ⟨m, rfl⟩ : ∃ m, n = m + 1 := ⟨n - 1, by simp at h; omega⟩
    rw [List.getElem?_cons_succ, last_at (b :: l) m (by simpa using h)]; rfl
theorem walk_last (base f : Int) (os : List Nat) : (walkZ base f os)[os.length]? = some ((walkZ base f os).getLastD 0) := last_at _ _ (walk_length base os f)
theorem own_one {w : World} {B : Nat} {t : TypeId} {v : Value} (hB : B ≤ w.heap.size) (hv : v.oneCell' = true) : (w.alloc (.cells #[v] t)).ownsRow B t 1 (.slice (some ⟨w.heap.size, 0, none⟩) 1 1) 1 [v] :=
  ⟨by simp, .inr ⟨w.heap.size, 1, #[v], rfl, hB, heap_alloc_new w _, Nat.le_refl _, by simp [maxLen], by simp, by simp⟩⟩
set_option maxRecDepth 100000 in
set_option maxHeartbeats 8000000 in
theorem read_any (rb : Nat) (bs : List Int) (w : World) (hR : Rd w rb bs) (hb : bytes bs) (hl : bs.length ≤ 1000000) (o : Option (List Int)) (ho : o = readZ bs) :
    Calls Try.prog 25 #[.pointer (some ⟨rb, 0, none⟩)] w (ReadL w rb o) := by
  obtain ⟨i0, hi0, hz0, hz1, hz2⟩ := info_parts Try.info3
  have HO := Lib.hid ho
  have HR := Lib.hid hR
  have HB := Lib.hid hb
  have hrlt := hR.lt
  clear ho hR hb
  obtain ⟨v, k1, hp1⟩ : ∃ v k, numP bs = (v, k) := ⟨_, _, rfl⟩
  by_cases hb1 : k1 = 0 ∨ v < 0 ∨ 65536 < v
  · obtain rfl : o = none := by rw [HO.out]; exact read_n hp1 hb1
    have HP1 := Lib.hid hp1
    have HB1 := Lib.hid hb1
    clear hp1 hb1 HO
    go_enter Try.func25, Try.ntmps25
    go_wp2_with fail
    refine (rint_bad rb bs 0 65536 _ HR.out HB.out v k1 HP1.out HB1.out).mono ?_
    rintro e w1 ⟨rfl, hR1, hg1⟩
    have HG := Lib.hid hg1
    clear hR1 hg1
    go_wp2_with fail
    go_ret2
    exact ⟨⟨11, by omega, rfl⟩, HG.out⟩
  obtain ⟨n, hn⟩ : ∃ n : Nat, v = (n : Int) := ⟨v.toNat, by omega⟩
  subst hn
  have hk1 : 0 < k1 := by omega
  have hn9 : n ≤ 65536 := by omega
  by_cases hn0 : n = 0
  · subst hn0
    obtain rfl : o = some [] := by rw [HO.out]; exact read_0 hp1 hk1
    have HP1 := Lib.hid hp1
    clear hp1 hb1 HO
    go_enter Try.func25, Try.ntmps25
    go_wp2_with fail
    refine (rint_good rb bs 0 65536 _ HR.out HB.out ((0 : Nat) : Int) k1 HP1.out hk1 (by omega) (by omega)).mono ?_
    rintro e w1 ⟨rfl, hR1, hg1⟩
    have HG := Lib.hid hg1
    clear hR1 hg1
    go_wp2_with fail
    go_ret2
    exact ⟨⟨none, 0, rfl, .inl rfl, by simp, fun _ => rfl⟩, HG.out⟩
  have hn1 : 1 ≤ n := by omega
  have HP1 := Lib.hid hp1
  have hnz : ((n : Int) == 0) = false := by simp; omega
  have hnz2 : ¬ (n : Int) = 0 := by omega
  have hw1 : IntKind.i64.wrap ((n : Int) - 1) = ((n - 1 : Nat) : Int) := by rw [IntWalk.i64_in _ (by omega)]; omega
  have hs1 : (n : Int) - 1 = ((n - 1 : Nat) : Int) := by omega
  obtain ⟨m, hm⟩ : ∃ m, m = n - 1 := ⟨_, rfl⟩
  rw [← hm] at hw1 hs1
  have HM := Lib.hid hm
  have hm9 : m ≤ 65536 := by omega
  clear hp1 hb1 hn0 hm
  go_enter Try.func25, Try.ntmps25
  go_wp2_with fail
  refine (rint_good rb bs 0 65536 _ HR.out HB.out (n : Int) k1 HP1.out hk1 (by omega) (by omega)).mono ?_
  rintro e w1 ⟨rfl, hR1, hg1⟩
  have HG1 := Lib.hid hg1
  have HR1 := Lib.hid hR1
  clear hR1 hg1
  obtain ⟨f, k2, hp2⟩ : ∃ f k, numP (bs.drop k1) = (f, k) := ⟨_, _, rfl⟩
  obtain ⟨_, _, hf1, hf2⟩ := numP_len hp2
  by_cases hk2 : k2 = 0
  · subst hk2
    obtain rfl : o = none := by rw [HO.out]; exact read_f HP1.out hk1 hn1 hn9 hp2
    have HP2 := Lib.hid hp2
    clear hp2 HO
    go_wp2_with fail
    refine (rint_bad rb (bs.drop k1) (-9223372036854775808) 9223372036854775807 _ HR1.out (drop_byte HB.out _) f 0 HP2.out (.inl rfl)).mono ?_
    rintro e w2 ⟨rfl, hR2, hg2⟩
    have HG2 := Lib.hid (HG1.out.trans hg2)
    clear hR2 hg2
    go_wp2_with fail
    go_ret2
    exact ⟨⟨11, by omega, rfl⟩, HG2.out⟩
  have hk2p : 0 < k2 := by omega
  have HP2 := Lib.hid hp2
  clear hp2 hk2
  go_wp2_with fail
  refine (rint_good rb (bs.drop k1) (-9223372036854775808) 9223372036854775807 _ HR1.out (drop_byte HB.out _) f k2 HP2.out hk2p hf1 hf2).mono ?_
  rintro e w2 ⟨rfl, hR2, hg2⟩
  have HG2 := Lib.hid (HG1.out.trans hg2)
  have HR2 := Lib.hid hR2
  clear hR2 hg2
  obtain ⟨b, k3, hp3⟩ : ∃ f k, numP ((bs.drop k1).drop k2) = (f, k) := ⟨_, _, rfl⟩
  obtain ⟨_, _, hb1, hb2⟩ := numP_len hp3
  by_cases hk3 : k3 = 0
  · subst hk3
    obtain rfl : o = none := by rw [HO.out]; exact read_b HP1.out hk1 hn1 hn9 HP2.out hk2p hp3
    have HP3 := Lib.hid hp3
    clear hp3 HO
    go_wp2_with fail
    refine (rint_bad rb ((bs.drop k1).drop k2) (-9223372036854775808) 9223372036854775807 _ HR2.out (drop_byte (drop_byte HB.out _) _) b 0 HP3.out (.inl rfl)).mono ?_
    rintro e w3 ⟨rfl, hR3, hg3⟩
    have HG3 := Lib.hid (HG2.out.trans hg3)
    clear hR3 hg3
    go_wp2_with fail
    go_ret2
    exact ⟨⟨11, by omega, rfl⟩, HG3.out⟩
  have hk3p : 0 < k3 := by omega
  have HP3 := Lib.hid hp3
  clear hp3 hk3
  go_wp2_with fail
  refine (rint_good rb ((bs.drop k1).drop k2) (-9223372036854775808) 9223372036854775807 _ HR2.out (drop_byte (drop_byte HB.out _) _) b k3 HP3.out hk3p hb1 hb2).mono ?_
  rintro e w3 ⟨rfl, hR3, hg3⟩
  have HG3 := Lib.hid (HG2.out.trans hg3)
  have HR3 := Lib.hid hR3
  clear hR3 hg3
  obtain ⟨x, k4, hp4⟩ : ∃ f k, numP (((bs.drop k1).drop k2).drop k3) = (f, k) := ⟨_, _, rfl⟩
  by_cases hk4 : k4 = 0 ∨ x < 0 ∨ 64 < x
  · obtain rfl : o = none := by rw [HO.out]; exact read_w HP1.out hk1 hn1 hn9 HP2.out hk2p HP3.out hk3p hp4 hk4
    have HP4 := Lib.hid hp4
    have HK4 := Lib.hid hk4
    clear hp4 HO hk4
    go_wp2_with fail
    refine (rint_bad rb (((bs.drop k1).drop k2).drop k3) 0 64 _ HR3.out (drop_byte (drop_byte (drop_byte HB.out _) _) _) x k4 HP4.out HK4.out).mono ?_
    rintro e w4 ⟨rfl, hR4, hg4⟩
    have HG4 := Lib.hid (HG3.out.trans hg4)
    clear hR4 hg4
    go_wp2_with fail
    go_ret2
    exact ⟨⟨11, by omega, rfl⟩, HG4.out⟩
  obtain ⟨W, hW⟩ : ∃ W : Nat, x = (W : Int) := ⟨x.toNat, by omega⟩
  subst hW
  have hk4p : 0 < k4 := by omega
  have hW9 : W ≤ 64 := by omega
  have HP4 := Lib.hid hp4
  obtain ⟨p, hp⟩ : ∃ p, p = (((bs.drop k1).drop k2).drop k3).drop k4 := ⟨_, rfl⟩
  have HOP := Lib.hid (show o = if p.length = sizeN m W ∧ numF (bitB p) (m * W) (8 * p.length - m * W) = 0 then some (walkZ b f (unp p W m)) else none by
    rw [HO.out, hp, HM.out]; exact read_p HP1.out hk1 hn1 hn9 HP2.out hk2p HP3.out hk3p HP4.out hk4p hW9)
  have HBP := Lib.hid (show bytes p by rw [hp]; exact drop_byte (drop_byte (drop_byte (drop_byte HB.out _) _) _) _)
  have hpl : p.length ≤ 1000000 := by rw [hp]; simp only [List.length_drop]; omega
  have HP := Lib.hid hp
  clear hp4 hk4 HO hp
  go_wp2_with fail
  refine (rint_good rb (((bs.drop k1).drop k2).drop k3) 0 64 _ HR3.out (drop_byte (drop_byte (drop_byte HB.out _) _) _) (W : Int) k4 HP4.out hk4p (by omega) (by omega)).mono ?_
  rintro e w4 ⟨rfl, hR4, hg4⟩
  rw [← HP.out] at hR4
  have HG4 := Lib.hid (HG3.out.trans hg4)
  have HR4 := Lib.hid hR4
  clear hR4 hg4
  go_wp2_with fail
  refine (left_any rb p _ HR4.out).mono ?_
  rintro e w5 ⟨rfl, rfl⟩
  obtain ⟨lp, hlp⟩ : ∃ lp, lp = p.length := ⟨_, rfl⟩
  rw [← hlp] at hpl ⊢
  have HLP := Lib.hid hlp
  clear hlp
  have hby : Calls Try.prog 42 #[.pointer (some ⟨rb, 0, none⟩), .int .i64 (lp : Int)] w4 fun e w' => ∃ A c, e = .returned (.tuple #[.slice A lp c, .int .i64 0]) ∧ Row w' A (p.map (Value.int .u8)) ∧ w4.grownBy w' (some rb) := by
    rcases Nat.eq_zero_or_pos lp with h0 | h0
    · subst h0
      have hp0 : p = [] := List.length_eq_zero_iff.1 HLP.out.symm
      refine (rbytes_zero rb p w4 HR4.out).mono ?_
      rintro e w' ⟨rfl, _, hg⟩
      exact ⟨none, 0, rfl, .inl (by rw [hp0]; rfl), hg⟩
    · refine (rbytes_good rb p lp w4 HR4.out (by rw [HLP.out]; exact Nat.le_refl _) h0).mono ?_
      rintro e w' ⟨v, ⟨rfl, _, hg⟩, ⟨A, c, rfl, hr, _⟩, _⟩
      rw [HLP.out, List.take_length] at hr ⊢
      exact ⟨A, c, rfl, hr, hg⟩
  have HBY := Lib.hid hby
  clear hby
  go_wp2_with fail
  refine HBY.out.mono ?_
  rintro e w5 ⟨A5, c5, rfl, hr5, hg5⟩
  have HR5 := Lib.hid hr5
  have HG5 := Lib.hid (HG4.out.trans hg5)
  clear hr5 hg5
  by_cases hgood : lp = sizeN m W ∧ numF (bitB p) (m * W) (8 * lp - m * W) = 0
  · obtain ⟨U, hU⟩ : ∃ U, U = unp p W m := ⟨_, rfl⟩
    obtain rfl : o = some (walkZ b f U) := by rw [HOP.out, ← HLP.out, if_pos hgood, hU]
    have HGD := Lib.hid hgood
    have HUL := Lib.hid (show U.length = m by rw [hU]; exact unp_length _ _ _)
    have HU := Lib.hid hU
    clear hgood HOP hU
    go_wp2_with fail
    refine (unpack_good A5 lp c5 p m W _ HR5.out HLP.out HBP.out (by omega) hm9 hW9 HGD.out.1 HGD.out.2).mono ?_
    rintro e w6 ⟨g6, rfl, hr6, hB6⟩
    rw [← HU.out] at hr6 ⊢
    rw [HUL.out]
    have HR6 := Lib.hid hr6
    have HG6 := Lib.hid (HG5.out.trans (below_grown hB6 _))
    clear hr6 hB6
    go_wp2_with fail
    go_loopw [12, 73] (fun v i wr => ∃ k : Nat, k ≤ m ∧ i = .int .i64 k ∧ Hid (wr.ownsRow w6.heap.size 3 1 v (k + 1) ((walkZ b f (U.take k)).map (Value.int .i64))) ∧ Hid (Below w6.heap.size w6 wr)) (fun _ i _ => m - (intOf i).toNat)
    case atStart => exact ⟨0, by omega, rfl, Lib.hid (own_one (Nat.le_refl _) rfl), Lib.hid (bpush (Below.refl _ _) _)⟩
    case round =>
      obtain ⟨k, hk, rfl, HO, HBR⟩ := hrel
      by_cases hlt : k < m
      · have hkz : k < U.length := by rw [HUL.out]; exact hlt
        have hc0 := (u64s_cell (HR6.out.keep (Nat.le_refl _) HBR.out) hkz)
        obtain ⟨b6, off6, e6, c0⟩ := hc0
        cases e6
        rw [Nat.zero_add] at c0
        obtain ⟨u, hu⟩ : ∃ u, U[k]? = some u := ⟨_, List.getElem?_eq_getElem hkz⟩
        rw [show U[k] = u from Option.some.inj ((List.getElem?_eq_getElem hkz).symm.trans hu)] at c0
        have htl : (U.take k).length = k := by rw [List.length_take]; omega
        obtain ⟨y, hy⟩ : ∃ y, y = (walkZ b f (U.take k)).getLastD 0 := ⟨_, rfl⟩
        have hlast := walk_last b f (U.take k)
        rw [htl, ← hy] at hlast
        obtain ⟨gl, cl, rfl, hcl, hrl⟩ := Row.of_own HO.out (by omega)
        have c1 := HO.out.cellAt k (by omega)
        rw [List.getElem?_map, hlast] at c1
        replace c1 : wr.cell? ⟨gl, k, none⟩ = some (.int .i64 y) := c1
        obtain ⟨z, hz⟩ : ∃ z, z = wrap64 (y + b + (u : Int)) := ⟨_, rfl⟩
        have HTK := Lib.hid (show walkZ b f (U.take (k + 1)) = walkZ b f (U.take k) ++ [z] by
          rw [take_snoc _ k hkz, walk_snoc, ← hy, hz]
          congr 3
          rw [show U[k] = u from Option.some.inj ((List.getElem?_eq_getElem hkz).symm.trans hu)])
        have hw3 : wrap64 (wrap64 (y + b) + wrap64 (u : Int)) = z := by rw [hz]; unfold wrap64; omega
        have hw4 : IntKind.i64.wrap (IntKind.i64.wrap (y + b) + IntKind.i64.wrap (u : Int)) = z := by rw [IntWalk.i64_left, IntWalk.i64_left, IntWalk.i64_left]; exact hw3
        have hki : (k : Int) < (m : Int) := by omega
        have hk0 : (0 : Int) ≤ (k : Int) := by omega
        have hkl : (k : Int) < (k : Int) + 1 := by omega
        have hown := HO.out
        clear hu htl hy hlast hrl hz
        go_wp2_with (at_builtin; refine wpList_append_own _ rfl _ _ 22 rfl w6.heap.size 3 i0 (.int .i64 0) 1 8 Try.underlying22 hi0 hz0 hz1 hz2 rfl (by decide) _ _ _ rfl (hown.alloc _) ⟨wr.heap.size, 0, none⟩ 1 1 [.int .i64 z] rfl rfl ?c1 ?c2 ?c3 ?c4 ?c5 ?_)
        case c1 => intro j u hj; match j, hj with | 0, hj => simp at hj; subst hj; simp [Addr.add]
        case c2 => intro u hu; simp at hu; subst hu; rfl
        case c3 => unfold maxLen; omega
        case c4 => omega
        case c5 => have := HBR.out.size; simp; omega
        intro v' w8 hown' hgrow _
        have HB8 := Lib.hid (show Below w6.heap.size w6 w8 from (bpush HBR.out _).grown hgrow (by have := HBR.out.size; simp; omega) (fun k hk => (hown.lt k hk).1))
        have HO8 := Lib.hid (show w8.ownsRow w6.heap.size 3 1 v' (k + 1 + 1) ((walkZ b f (U.take (k + 1))).map (Value.int .i64)) by rw [HTK.out, List.map_append]; simpa using hown')
        clear hown' hgrow hown c0 c1 hw3 hw4
        go_wp2_with fail
        go_roundw
        case rel => exact ⟨k + 1, by omega, by go_num, HO8, HB8⟩
        case measure => simp [intOf]; omega
      · have hki : ¬ (k : Int) < (m : Int) := by omega
        obtain rfl : k = m := by omega
        have hof := HO.out
        rw [List.take_of_length_le (by rw [HUL.out]; exact Nat.le_refl _)] at hof
        obtain ⟨A7, c7, rfl, hr7, hc7, hn7⟩ := own_slice hof
        have HR7 := Lib.hid hr7
        have HN7 := Lib.hid hn7
        have HC7 := Lib.hid hc7
        have HLW := Lib.hid (show k + 1 = (walkZ b f U).length by rw [walk_length, HUL.out])
        have HG7 := Lib.hid (HG6.out.trans (below_grown HBR.out _))
        clear hof hr7 hn7 hc7
        go_wp2_with fail
        go_ret2
        exact ⟨⟨A7, c7, by rw [← HLW.out]; rfl, HR7.out, by rw [← HLW.out]; exact HC7.out, HN7.out⟩, HG7.out⟩
  · obtain rfl : o = none := by rw [HOP.out, ← HLP.out, if_neg hgood]
    have HGD := Lib.hid hgood
    clear hgood HOP
    go_wp2_with fail
    refine (unpack_wrong A5 lp c5 p m W _ HR5.out HLP.out HBP.out (by omega) hm9 hW9 HGD.out).mono ?_
    rintro e w6 ⟨rfl, rfl⟩
    go_wp2_with fail
    go_ret2
    exact ⟨⟨71, by omega, rfl⟩, HG5.out⟩
end Go.Proofs.Ytedldajlioeioaa
