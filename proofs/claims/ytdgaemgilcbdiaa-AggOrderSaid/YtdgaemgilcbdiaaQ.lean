import Derived.Test.YtdgaemgilcbdiaaP
import Derived.Test.YtdgaemgilcbdiaaK
import Derived.Laws.OwnMore
namespace Go.Proofs.Ytdgaemgilcbdiaa
open Go.RowKit
set_option linter.unusedSimpArgs false
theorem Try.info3 : (Try.prog.info? 3).map (fun i => (i.zero, i.size, i.bytes)) = some (some (.int .i64 0), 1, 8) := by kernel_rfl
theorem Row.of_own {w : World} {base : Nat} {e : TypeId} {v : Value} {n : Nat} {xs : List Value} (h : w.ownsRow base e 1 v n xs) (hn : 0 < n) :
    ∃ g cap, v = .slice (some ⟨g, 0, none⟩) n cap ∧ n ≤ cap ∧ Row w (some ⟨g, 0, none⟩) xs := by
  rcases h.2 with ⟨_, h0⟩ | ⟨g, cap, cur, rfl, h1, h2, h3, h4, h5, h6⟩
  · omega
  · refine ⟨g, cap, rfl, h3, .inr ⟨g, 0, rfl, fun j u hu => ?_⟩⟩
    have := h.cells (g := g) rfl j u hu
    unfold Addr.add at this
    split at this
    · rename_i hj; subst hj; simpa using this
    · simpa using this
theorem rev_succ (zs : List Int) (m : Nat) (h : m < zs.length) : (zs.drop m).reverse = (zs.drop (m + 1)).reverse ++ [zs[m]] := by
  rw [List.drop_eq_getElem_cons h, List.reverse_cons]
theorem sizeA_fit {z : Int} (h1 : -4611686018427387904 ≤ z) (h2 : z ≤ 4611686018427387904) : sizeA z = max z (-z) := by unfold sizeA; split <;> omega
theorem sizeA_bd (z : Int) : 0 ≤ sizeA z ∧ sizeA z ≤ 4611686018427387904 := by unfold sizeA; split <;> omega
theorem szL_rev (l : List Int) (z : Int) : szL (l ++ [z]) = szL l + max z (-z) := by rw [szL_append, szL_cons]; simp [szL]
theorem take_ne (zs : List Int) (τ : Nat) (h1 : 1 ≤ τ) (h : τ < zs.length) : zs.take τ ≠ [] := by
  intro e
  have := congrArg List.length e
  rw [List.length_take, List.length_nil] at this
  omega
theorem drop_ne (zs : List Int) (τ : Nat) (h : τ < zs.length) : zs.drop τ ≠ [] := by
  intro e
  have := congrArg List.length e
  rw [List.length_drop, List.length_nil] at this
  omega
theorem szL_reverse (l : List Int) : szL l.reverse = szL l := by
  induction l with
  | nil => rfl
  | cons z l ih => rw [List.reverse_cons, szL_rev, szL_cons, ih]; omega
theorem sumL_reverse (l : List Int) : sumL l.reverse = sumL l := by
  induction l with
  | nil => rfl
  | cons z l ih =>
    have e : sumL (z :: l) = z + sumL l := by simp [sumL]
    rw [List.reverse_cons, sumL_append, e, ih]; simp [sumL]; omega
theorem Row.part {w : World} {b off : Nat} {zs : List Int} (h : Row w (some ⟨b, off, none⟩) (zs.map (Value.int .i64))) (τ : Nat) (hτ : τ < zs.length) :
    Row w (some ⟨b, off, none⟩) ((zs.take τ).map (Value.int .i64)) ∧ Row w (some ⟨b, off + τ, none⟩) ((zs.drop τ).map (Value.int .i64)) := by
  rcases h with h | ⟨b', off', he, hc⟩
  · simp at h; subst h; simp at hτ
  · cases he
    refine ⟨.inr ⟨b, off, rfl, fun j u hu => ?_⟩, .inr ⟨b, off + τ, rfl, fun j u hu => ?_⟩⟩
    · rcases Nat.lt_or_ge j τ with h | h
      · exact hc j u (by rw [List.getElem?_map, List.getElem?_take_of_lt h] at hu; rw [List.getElem?_map]; exact hu)
      · rw [List.getElem?_eq_none (by rw [List.length_map, List.length_take]; omega)] at hu; cases hu
    · rw [Nat.add_assoc]
      exact hc (τ + j) u (by rw [List.getElem?_map, List.getElem?_drop] at hu; rw [List.getElem?_map]; exact hu)
theorem Row.head {w : World} {A : Option Addr} {zs : List Int} (hA : Row w A (zs.map (Value.int .i64))) (h : 0 < zs.length) : ∃ b off, A = some ⟨b, off, none⟩ := by
  obtain ⟨b, off, e, _⟩ := hA.cell h; exact ⟨b, off, e⟩
set_option maxRecDepth 100000 in
set_option maxHeartbeats 4000000 in
theorem order_any (A : Option Addr) (n c : Nat) (zs : List Int) (t : Int) (w : World) (hA0 : Row w A (zs.map (Value.int .i64))) (hz : n = zs.length) (hnc : n ≤ c) (hwz : ∀ x ∈ zs, -9223372036854775808 ≤ x ∧ x ≤ 9223372036854775807) (hn : n ≤ 9223372036854775807) :
    Calls Try.prog 4 #[.slice A n c, .int .i64 t] w fun e w' => e = .returned (.bool true) ∧ Below w.heap.size w w' := by
  by_cases hlong : 200 < n
  · go_enter Try.func4, Try.ntmps4
    go_wp2_with fail
    refine (alive_any _).mono ?_
    rintro e w1 ⟨rfl, hb⟩
    go_wp2
    go_ret
    exact ⟨rfl, hb⟩
  by_cases h0 : n = 0
  · subst h0
    clear hz hA0 hwz
    go_enter Try.func4, Try.ntmps4
    go_wp2_with fail
    refine (alive_any _).mono ?_
    rintro e w1 ⟨rfl, hb⟩
    go_wp2
    go_ret
    exact ⟨rfl, hb⟩
  have HZ := Lib.hid hz
  have HW := Lib.hid hwz
  clear hwz
  have h00 : ((n : Int) == 0) = false := by simp; omega
  have hpos : 0 < n := by omega
  clear hz h0
  obtain ⟨i0, hi0, hz0, hz1, hz2⟩ := info_parts Try.info3
  go_enter Try.func4, Try.ntmps4
  go_wp2_with fail
  go_loopw [5, 6, 7, 8] (fun s v i _ wr => ∃ j : Nat, j ≤ n ∧ i = .int .i64 ((j : Int) - 1) ∧ s = .int .i64 (szL (zs.drop j).reverse) ∧ wr.ownsRow w.heap.size 3 1 v (n - j) (((zs.drop j).reverse).map (Value.int .i64)) ∧
      Hid (fitAll (zs.drop j).reverse) ∧ szL (zs.drop j).reverse ≤ 4611686018427387904 ∧ Below w.heap.size w wr)
    (fun _ _ i _ _ => (intOf i + 1).toNat)
  case atStart =>
    refine ⟨n, Nat.le_refl _, rfl, ?_, ?_, ?_, ?_, Below.refl _ _⟩
    · rw [List.drop_of_length_le (by have := HZ.out; omega)]; rfl
    · rw [List.drop_of_length_le (by have := HZ.out; omega), Nat.sub_self]; exact World.ownsRow_nil _ _ _ _
    · rw [List.drop_of_length_le (by have := HZ.out; omega)]; intro x hx; simp at hx
    · rw [List.drop_of_length_le (by have := HZ.out; omega)]; simp [szL]
  case round =>
    obtain ⟨j, hj, rfl, rfl, hown, hfit, hsz, hB⟩ := hrel
    cases j with
    | zero =>
      have hlen := HZ.out
      rw [List.drop_zero] at hfit hsz hown
      rw [Nat.sub_zero] at hown
      obtain ⟨g, cap, rfl, hcap, hK⟩ := Row.of_own hown hpos
      have hfa : fitAll zs := fun x hx => hfit.out x (by simpa using hx)
      have hsz' : szL zs ≤ 4611686018427387904 := by rw [szL_reverse] at hsz; exact hsz
      have hne : zs ≠ [] := by intro h; rw [h] at hlen; simp at hlen; omega
      obtain ⟨r, hr, hi, hright⟩ := all_ok zs hne hfa hsz'
      obtain ⟨r2, hr2, hi2, -⟩ := all_ok zs.reverse (by simpa using hne) hfit.out hsz
      have hrr : r = r2 := (hi2.same hi (sumL_reverse zs) (fun x => by simp)).symm
      subst hrr
      have HR := Lib.hid hr
      have HR2 := Lib.hid hr2
      have HI := Lib.hid hi
      have HF := Lib.hid hfa
      have HZ2 := Lib.hid (show n = zs.reverse.length by rw [List.length_reverse]; exact hlen)
      obtain ⟨b, off, hA'⟩ := hA0.head (by omega)
      subst hA'
      clear hr hr2 hi hi2 hfa hfit hsz hown hright hlen hne
      rw [show ((0 : Nat) : Int) - 1 = -1 from rfl]
      have hA := hA0.keep (Nat.le_refl _) hB
      go_wp2_with fail
      refine (all_all HR.out _ _ _ _ hA (by omega) HZ.out hnc).mono ?_
      rintro e w1 ⟨rfl, hb⟩
      replace hB := bthen hB hb
      have hBr := hb
      clear hb
      have hX := Box3.new w1 23 r.s  r.mn  r.mx
      replace hB := bpush hB (.cells #[.int .i64 r.s, .int .i64 r.mn, .int .i64 r.mx] 23)
      replace hBr := bpush hBr (.cells #[.int .i64 r.s, .int .i64 r.mn, .int .i64 r.mx] 23)
      have hK' := hK.keep (Nat.le_refl _) hBr
      go_wp2_with fail
      refine (all_all HR2.out _ _ _ _ hK' (by omega) HZ2.out hcap).mono ?_
      rintro e w2 ⟨rfl, hb⟩
      replace hX := hX.keep hb
      replace hB := bthen hB hb
      clear hb
      replace hX := hX.alloc (.cells #[.int .i64 r.s, .int .i64 r.mn, .int .i64 r.mx] 23)
      have hY := Box3.new w2 23 r.s  r.mn  r.mx
      replace hB := bpush hB (.cells #[.int .i64 r.s, .int .i64 r.mn, .int .i64 r.mx] 23)
      clear hA hK hK' hBr
      have qX := hX; obtain ⟨X0, X1, X2, Xf⟩ := qX
      have qY := hY; obtain ⟨Y0, Y1, Y2, Yf⟩ := qY
      by_cases ht1 : t < 1
      · go_wp2_with fail
        refine (alive_any _).mono ?_
        rintro e w9 ⟨rfl, hb⟩
        go_wp2
        go_ret
        exact ⟨rfl, bthen hB hb⟩
      by_cases ht2 : (n : Int) ≤ t
      · go_wp2_with fail
        refine (alive_any _).mono ?_
        rintro e w9 ⟨rfl, hb⟩
        go_wp2
        go_ret
        exact ⟨rfl, bthen hB hb⟩
      · obtain ⟨τ, rfl⟩ := Int.eq_ofNat_of_zero_le (show 0 ≤ t by omega)
        have hτ : τ < zs.length := by have := HZ.out; omega
        have hτ1 : 1 ≤ τ := by omega
        have hτ2 : τ < n := by omega
        have hcτ : ¬ c = τ := by omega
        obtain ⟨hT1, hT2⟩ := hA0.part τ hτ
        have hf12 := HF.out
        rw [← List.take_append_drop τ zs] at hf12 hsz'
        have hsplit := hsz'
        rw [szL_append] at hsplit
        have n1 := szL_nonneg (zs.take τ)
        have n2 := szL_nonneg (zs.drop τ)
        obtain ⟨p, hp, hpi, -⟩ := all_ok (zs.take τ) (take_ne zs τ hτ1 hτ) (fun x hx => hf12 x (List.mem_append.2 (.inl hx))) (by omega)
        obtain ⟨q, hq, hqi, -⟩ := all_ok (zs.drop τ) (drop_ne zs τ hτ) (fun x hx => hf12 x (List.mem_append.2 (.inr hx))) (by omega)
        have hj1 := join_ok hpi hqi hf12 hsz'
        have hpq := hpi.join hqi
        rw [List.take_append_drop] at hpq
        have hrr := hpq.same HI.out rfl (fun x => Iff.rfl)
        rw [hrr] at hj1
        have HJ1 := Lib.hid hj1
        have HJ2 := Lib.hid ((joinA_comm p q).trans hj1)
        have HP := Lib.hid hp
        have HQ := Lib.hid hq
        have HPz := Lib.hid (show τ = (zs.take τ).length by rw [List.length_take]; omega)
        have HQz := Lib.hid (show n - τ = (zs.drop τ).length by rw [List.length_drop, HZ.out])
        clear hj1 hpq hrr hp hq hpi hqi hf12 hsz' hsplit n1 n2 Y0 Y1 Y2 Yf hY
        clear X0 X1 X2 Xf
        have qY : True := trivial
        have hA1 := hT1.keep (Nat.le_refl _) hB
        have qX := hX; obtain ⟨X0, X1, X2, Xf⟩ := qX
        go_wp2_with fail
        refine (all_all HP.out _ _ _ _ hA1 (by omega) HPz.out (by omega)).mono ?_
        rintro e w3 ⟨rfl, hb⟩
        clear X0 X1 X2 Xf
        replace hX := hX.keep hb
        replace hB := bthen hB hb
        clear hb
        replace hX := hX.alloc (.cells #[.int .i64 p.s, .int .i64 p.mn, .int .i64 p.mx] 23)
        have hP := Box3.new w3 23 p.s  p.mn  p.mx
        replace hB := bpush hB (.cells #[.int .i64 p.s, .int .i64 p.mn, .int .i64 p.mx] 23)
        have hA2 := hT2.keep (Nat.le_refl _) hB
        go_wp2_with fail
        refine (all_all HQ.out _ _ _ _ hA2 (by omega) HQz.out (by omega)).mono ?_
        rintro e w4 ⟨rfl, hb⟩
        replace hX := hX.keep hb
        replace hP := hP.keep hb
        replace hB := bthen hB hb
        clear hb
        replace hX := hX.alloc (.cells #[.int .i64 q.s, .int .i64 q.mn, .int .i64 q.mx] 23)
        replace hP := hP.alloc (.cells #[.int .i64 q.s, .int .i64 q.mn, .int .i64 q.mx] 23)
        have hQ := Box3.new w4 23 q.s  q.mn  q.mx
        replace hB := bpush hB (.cells #[.int .i64 q.s, .int .i64 q.mn, .int .i64 q.mx] 23)
        have qP := hP; obtain ⟨P0, P1, P2, Pf⟩ := qP
        have qQ := hQ; obtain ⟨Q0, Q1, Q2, Qf⟩ := qQ
        go_wp2_with fail
        refine (join_all HJ1.out _).mono ?_
        rintro e w5 ⟨rfl, hb⟩
        clear P0 P1 P2 Pf Q0 Q1 Q2 Qf
        replace hX := hX.keep hb
        replace hP := hP.keep hb
        replace hQ := hQ.keep hb
        replace hB := bthen hB hb
        clear hb
        replace hX := hX.alloc (.cells #[.int .i64 r.s, .int .i64 r.mn, .int .i64 r.mx] 23)
        replace hP := hP.alloc (.cells #[.int .i64 r.s, .int .i64 r.mn, .int .i64 r.mx] 23)
        replace hQ := hQ.alloc (.cells #[.int .i64 r.s, .int .i64 r.mn, .int .i64 r.mx] 23)
        have hZ := Box3.new w5 23 r.s  r.mn  r.mx
        replace hB := bpush hB (.cells #[.int .i64 r.s, .int .i64 r.mn, .int .i64 r.mx] 23)
        have qP := hP; obtain ⟨P0, P1, P2, Pf⟩ := qP
        have qQ := hQ; obtain ⟨Q0, Q1, Q2, Qf⟩ := qQ
        go_wp2_with fail
        refine (join_all HJ2.out _).mono ?_
        rintro e w6 ⟨rfl, hb⟩
        clear P0 P1 P2 Pf Q0 Q1 Q2 Qf
        replace hX := hX.keep hb
        replace hP := hP.keep hb
        replace hQ := hQ.keep hb
        replace hZ := hZ.keep hb
        replace hB := bthen hB hb
        clear hb
        replace hX := hX.alloc (.cells #[.int .i64 r.s, .int .i64 r.mn, .int .i64 r.mx] 23)
        replace hP := hP.alloc (.cells #[.int .i64 r.s, .int .i64 r.mn, .int .i64 r.mx] 23)
        replace hQ := hQ.alloc (.cells #[.int .i64 r.s, .int .i64 r.mn, .int .i64 r.mx] 23)
        replace hZ := hZ.alloc (.cells #[.int .i64 r.s, .int .i64 r.mn, .int .i64 r.mx] 23)
        have hW := Box3.new w6 23 r.s  r.mn  r.mx
        replace hB := bpush hB (.cells #[.int .i64 r.s, .int .i64 r.mn, .int .i64 r.mx] 23)
        go_wp2_with fail
        refine (alive_any _).mono ?_
        rintro e w7 ⟨rfl, hb⟩
        replace hX := hX.keep hb
        replace hP := hP.keep hb
        replace hQ := hQ.keep hb
        replace hZ := hZ.keep hb
        replace hW := hW.keep hb
        replace hB := bthen hB hb
        clear hb
        have qX := hX; obtain ⟨X0, X1, X2, Xf⟩ := qX
        have qZ := hZ; obtain ⟨Z0, Z1, Z2, Zf⟩ := qZ
        have qW := hW; obtain ⟨W0, W1, W2, Wf⟩ := qW
        go_wp2
        go_ret
        exact ⟨rfl, hB⟩
    | succ m =>
      rw [show ((m + 1 : Nat) : Int) - 1 = (m : Int) from by omega]
      have hmz : m < zs.length := by have := HZ.out; omega
      obtain ⟨b, off, hA', hcell⟩ := hA0.cell hmz
      obtain ⟨z, hz⟩ : ∃ z, z = zs[m] := ⟨_, rfl⟩
      have hr := rev_succ zs m hmz
      rw [← hz] at hcell hr
      have Hz := Lib.hid hz
      have HRV := Lib.hid hr
      clear hz hr
      subst hA'
      obtain ⟨y, hy⟩ : ∃ y, y = szL (zs.drop (m + 1)).reverse := ⟨_, rfl⟩
      rw [← hy] at hsz ⊢
      have hy0 : 0 ≤ y := by rw [hy]; exact szL_nonneg _
      have HY := Lib.hid hy
      clear hy
      obtain ⟨s, hs⟩ : ∃ s, s = sizeA z := ⟨_, rfl⟩
      have hs0 : 0 ≤ s ∧ s ≤ 4611686018427387904 := by rw [hs]; exact sizeA_bd z
      obtain ⟨hs0, hs1⟩ := hs0
      have HS := Lib.hid hs
      clear hs
      have hm0 : (0 : Int) ≤ (m : Int) := by omega
      have hm1 : (m : Int) < (n : Int) := by omega
      have hcell' := (hB.cell (p := ⟨b, off + m, none⟩) (lt_of_cell hcell)).trans hcell
      have zz : z ≤ 9223372036854775807 := (HW.out z (by rw [Hz.out]; exact List.getElem_mem _)).2
      go_wp2_with fail
      refine (size_any _ _ zz).mono ?_
      rintro e w1 ⟨rfl, rfl⟩
      rw [← HS.out]
      by_cases h1 : z < -4611686018427387904
      · go_wp2_with fail
        refine (alive_any _).mono ?_
        rintro e w1 ⟨rfl, hb⟩
        go_wp2
        go_ret
        exact ⟨rfl, bthen hB hb⟩
      · by_cases h2 : 4611686018427387904 < z
        · go_wp2_with fail
          refine (alive_any _).mono ?_
          rintro e w1 ⟨rfl, hb⟩
          go_wp2
          go_ret
          exact ⟨rfl, bthen hB hb⟩
        · by_cases h3 : 4611686018427387904 - s < y
          · go_wp2_with fail
            refine (alive_any _).mono ?_
            rintro e w1 ⟨rfl, hb⟩
            go_wp2
            go_ret
            exact ⟨rfl, bthen hB hb⟩
          · go_wp2_with (at_builtin; refine wpList_append_own _ rfl _ _ 24 rfl w.heap.size 3 i0 (.int .i64 0) 1 8 Try.underlying24 hi0 hz0 hz1 hz2 rfl (by decide) _ _ _ rfl (hown.alloc _) ⟨wr.heap.size, 0, none⟩ 1 1 [.int .i64 z] rfl rfl ?c1 ?c2 ?c3 ?c4 ?c5 ?_)
            case c1 => intro j u hj; match j, hj with | 0, hj => simp at hj; subst hj; simp [Addr.add]
            case c2 => intro u hu; simp at hu; subst hu; rfl
            case c3 => unfold maxLen; omega
            case c4 => omega
            case c5 => have := hB.size; simp; omega
            intro v' w1 hown' hgrow _
            have hB' : Below w.heap.size w w1 := (bpush hB _).grown hgrow (by have := hB.size; simp; omega) (fun k hk => (hown.lt k hk).1)
            have hss : max z (-z) = s := by rw [HS.out, sizeA_fit (by omega) (by omega)]
            have hys : szL (zs.drop m).reverse = y + s := by rw [HRV.out, szL_rev, ← HY.out, hss]
            have hf' : Hid (fitAll (zs.drop m).reverse) := by
              show fitAll _
              rw [HRV.out]; intro x hx
              rcases List.mem_append.1 hx with h | h
              · exact hfit.out x h
              · simp at h; subst h; exact fit1_in (by omega) (by omega)
            have ho2 : w1.ownsRow w.heap.size 3 1 v' (n - m) (((zs.drop m).reverse).map (Value.int .i64)) := by
              rw [HRV.out, show n - m = n - (m + 1) + 1 from by omega]; simpa using hown'
            have HYS := Lib.hid hys
            clear hown' hgrow hown hfit hss hys hB hcell hcell'
            go_wp2
            go_roundw
            case rel => exact ⟨m, by omega, rfl, by rw [HYS.out], ho2, hf', by rw [HYS.out]; omega, hB'⟩
            case measure => first | (simp [intOf]; done) | (simp [intOf]; omega)
end Go.Proofs.Ytdgaemgilcbdiaa
