/- DeltaShift: its walk. -/
import Derived.Test.YtedldajlioeioaaPN
namespace Go.Proofs.Ytedldajlioeioaa
open Go.RowKit
set_option linter.unusedSimpArgs false
set_option linter.unusedVariables false
theorem enc_move (by_ : Int) {l : List Int} (h : l ≠ []) : (encZ l).length ≤ (encZ (l.map fun x => wrap64 (x + by_))).length + 9 ∧ (encZ (l.map fun x => wrap64 (x + by_))).length ≤ (encZ l).length + 9 := by
  cases l with
  | nil => exact absurd rfl h
  | cons a l =>
  have hs := steps_move by_ (a :: l)
  have ho : offZ ((a :: l).map fun x => wrap64 (x + by_)) = offZ (a :: l) := by unfold offZ; rw [hs]
  have h1 := enc_bd a
  have h2 := enc_bd (wrap64 (a + by_))
  have hl : ((a :: l).map fun x => wrap64 (x + by_)).length = (a :: l).length := List.length_map _
  rw [List.map_cons] at hs ho hl ⊢
  obtain ⟨m, hm⟩ : ∃ m, m = wrap64 (a + by_) :: l.map (fun x => wrap64 (x + by_)) := ⟨_, rfl⟩
  have e1 : encZ (a :: l) = encV ((a :: l).length : Int) ++ bodyZ a (a :: l) := rfl
  have e2 : encZ m = encV (m.length : Int) ++ bodyZ (wrap64 (a + by_)) m := by rw [hm]; rfl
  rw [← hm] at hs ho hl ⊢
  rw [e1, e2, hl, bodyZ, bodyZ, ho, hs]
  simp only [List.length_append]
  omega
theorem move_ints (by_ : Int) (l : List Int) : ints (l.map fun x => wrap64 (x + by_)) := by
  intro x hx
  obtain ⟨y, _, rfl⟩ := List.mem_map.1 hx
  exact wrap_i64 _
theorem own_dr {w : World} {B e size n : Nat} {v : Value} {xs : List Value} (h : w.ownsRow B e size v n xs) (q : Nat) : (w.drewN q).ownsRow B e size v n xs := h
theorem falls_snoc {L : List Int} {k : Nat} {s b : Bool} (hk : k < L.length) (hs : s = true ↔ ∀ (j : Nat) (h : j + 1 < L.length), j + 1 < k → L[j + 1] ≤ L[j]) (hb : b = true ↔ s = true ∧ (k = 0 ∨ ∃ h : 0 < k, L[k] ≤ L[k - 1])) :
    b = true ↔ ∀ (j : Nat) (h : j + 1 < L.length), j + 1 < k + 1 → L[j + 1] ≤ L[j] := by
  rw [hb, hs]
  constructor
  · rintro ⟨h1, h2⟩ j hj hjk
    rcases Nat.lt_or_ge (j + 1) k with e | e
    · exact h1 j hj e
    · obtain rfl : k = j + 1 := by omega
      rcases h2 with h2 | ⟨_, h2⟩
      · omega
      · exact h2
  · intro h
    refine ⟨fun j hj hjk => h j hj (by omega), ?_⟩
    cases k with
    | zero => exact .inl rfl
    | succ k => exact .inr ⟨by omega, h k hk (by omega)⟩
set_option maxRecDepth 100000 in
set_option maxHeartbeats 4000000 in
theorem shift_walk (A : Option Addr) (n c : Nat) (L : List Int) (x : Int) (w : World) (hA : Row w A (L.map (Value.int .i64))) (hz : n = L.length) (hL : ints L) (hx : i64 x) (hn9 : n ≤ 9223372036854775807) :
    Calls Try.prog 7 #[.slice A n c, .int .i64 x] w fun e w' => e = .returned (.bool true) ∧ Below w.heap.size w w' := by
  obtain ⟨i0, hi0, hz0, hz1, hz2⟩ := info_parts Try.info3
  by_cases h2 : 300 < n
  · have hi : (300 : Int) < (n : Int) := by omega
    clear hz hA h2
    go_enter Try.func7, Try.ntmps7
    go_wp2_with fail
    refine (alive_any _).mono ?_
    rintro e w1 ⟨rfl, hb⟩
    go_wp2
    go_ret
    exact ⟨rfl, hb⟩
  by_cases h3 : n = 0
  · have hi : (n : Int) ≤ 300 := by omega
    have hn0 : (n : Int) = 0 := by omega
    clear hz hA h2 h3
    go_enter Try.func7, Try.ntmps7
    go_wp2_with fail
    refine (alive_any _).mono ?_
    rintro e w1 ⟨rfl, hb⟩
    go_wp2
    go_ret
    exact ⟨rfl, hb⟩
  have hi : (n : Int) ≤ 300 := by omega
  have hn3 : n ≤ 300 := by omega
  have hpos : ((n : Int) == 0) = false := by rw [beq_eq_false_iff_ne]; omega
  have hdc : decide ((300 : Int) < (n : Int)) = false := by simp; omega
  have hLz : 0 < L.length := by omega
  obtain ⟨bo, oo, rfl, hc0⟩ := hA.cell (i := 0) hLz
  have HCELL := Lib.hid (show ∀ (i : Nat) (h : i < L.length), w.cell? ⟨bo, oo + i, none⟩ = some (.int .i64 L[i]) from fun i h => by
    obtain ⟨b2, o2, he, hc⟩ := hA.cell (i := i) h
    cases he; exact hc)
  obtain ⟨M, hM⟩ : ∃ M, M = L.map fun y => wrap64 (y + x) := ⟨_, rfl⟩
  obtain ⟨n1, hn1⟩ : ∃ n1, n1 = n - 1 := ⟨_, rfl⟩
  have hw1 : IntKind.i64.wrap ((n : Int) - 1) = (n1 : Int) := by rw [IntWalk.i64_in _ (by omega)]; omega
  have HA := Lib.hid hA
  have HZ := Lib.hid hz
  have HL := Lib.hid hL
  have HM := Lib.hid hM
  have HN1 := Lib.hid hn1
  have HMZ := Lib.hid (show n = M.length by rw [hM, List.length_map]; exact hz)
  have HMI := Lib.hid (show ints M by rw [hM]; exact move_ints x L)
  have HRZ := Lib.hid (show n = L.reverse.length by rw [List.length_reverse]; exact hz)
  clear hA hz hL hM hn1 hc0 hLz h2 h3 hx
  go_enter Try.func7, Try.ntmps7
  go_wp2_with fail
  go_loopw [5, 6, 7, 8] (fun vm vb fv i wr => ∃ (k : Nat) (s : Bool), k ≤ n ∧ i = .int .i64 k ∧ fv = .bool s ∧ Hid (s = true ↔ ∀ (j : Nat) (h : j + 1 < L.length), j + 1 < k → L[j + 1] ≤ L[j]) ∧ Hid (wr.ownsRow w.heap.size 3 1 vm k ((M.take k).map (Value.int .i64))) ∧ Hid (wr.ownsRow w.heap.size 3 1 vb k ((L.reverse.take k).map (Value.int .i64))) ∧ Hid (Ap vm vb) ∧ Hid (Below w.heap.size w wr)) (fun _ _ _ i _ => n - (intOf i).toNat)
  case atStart => exact ⟨0, true, by omega, rfl, rfl, Lib.hid ⟨fun _ j h h2 => by omega, fun _ => rfl⟩, Lib.hid (World.ownsRow_nil _ _ _ _), Lib.hid (World.ownsRow_nil _ _ _ _), Lib.hid (fun g h => by simp [Value.ownBlock] at h), Lib.hid (Below.refl _ _)⟩
  case round =>
    obtain ⟨k, s, hk, rfl, rfl, HS, HOM, HOB, HAP, HBW⟩ := hrel
    by_cases hlt : k < n
    · have hkz : k < L.length := by have := HZ.out; omega
      obtain ⟨j, hj⟩ : ∃ j, j = n1 - k := ⟨_, rfl⟩
      have hjz : j < L.length := by have := HZ.out; have := HN1.out; omega
      have hw2 : IntKind.i64.wrap ((n1 : Int) - (k : Int)) = (j : Int) := by have := HN1.out; rw [IntWalk.i64_in _ (by omega)]; omega
      obtain ⟨p, hp⟩ : ∃ p, p = L[k] := ⟨_, rfl⟩
      obtain ⟨r, hr⟩ : ∃ r, r = L[j] := ⟨_, rfl⟩
      obtain ⟨y, hy⟩ : ∃ y, y = wrap64 (p + x) := ⟨_, rfl⟩
      have hwy : wrap64 (p + x) = y := hy.symm
      have HC0 := Lib.hid (show w.cell? ⟨bo, oo + k, none⟩ = some (.int .i64 p) by rw [hp]; exact HCELL.out k hkz)
      have HC1 := Lib.hid (show w.cell? ⟨bo, oo + j, none⟩ = some (.int .i64 r) by rw [hr]; exact HCELL.out j hjz)
      have HTM := Lib.hid (show M.take (k + 1) = M.take k ++ [y] by
        rw [take_snoc _ _ (by have := HMZ.out; omega)]
        congr 2
        rw [hy, hp]
        simp only [HM.out, List.getElem_map])
      have HTB := Lib.hid (show L.reverse.take (k + 1) = L.reverse.take k ++ [r] by
        rw [take_snoc _ _ (by rw [List.length_reverse]; exact hkz), List.getElem_reverse]
        congr 2
        rw [hr]
        congr 1
        have := HZ.out; have := HN1.out; omega)
      have hkn : (k : Int) < (n : Int) := by omega
      have hk0 : (0 : Int) ≤ (k : Int) := by omega
      have hjn : (j : Int) < (n : Int) := by have := HZ.out; omega
      have hj0 : (0 : Int) ≤ (j : Int) := by omega
      have HP := Lib.hid hp
      have hc3 := (HBW.out.cell (p := ⟨bo, oo + k, none⟩) (lt_of_cell HC0.out)).trans HC0.out
      have hown := HOM.out
      clear hp hr hy hj hlt
      go_wp2_with (at_builtin; refine wpList_append_own_at _ rfl _ _ 22 rfl w.heap.size 3 i0 (.int .i64 0) 1 8 Try.underlying22 hi0 hz0 hz1 hz2 rfl (by decide) u5 k _ rfl (hown.alloc _) ⟨wr.heap.size, 0, none⟩ 1 1 [.int .i64 y] rfl rfl ?c1 ?c2 ?c3 ?c4 ?c5 ?_)
      try case c1 => intro j u hj; match j, hj with | 0, hj => simp at hj; subst hj; simp [Addr.add]
      try case c2 => first | rfl | (intro u hu; simp at hu; subst hu; rfl)
      case c3 => unfold maxLen; omega
      case c4 => omega
      case c5 => have := HBW.out.size; simp; omega
      intro v' w3 hown' hgrow _ hrow
      have HB3 := Lib.hid (show Below w.heap.size w w3 from (bpush HBW.out _).grown hgrow (by have := HBW.out.size; simp; omega) (fun k hk => (hown.lt k hk).1))
      have HM3 := Lib.hid (show w3.ownsRow w.heap.size 3 1 v' (k + 1) ((M.take (k + 1)).map (Value.int .i64)) by rw [HTM.out, List.map_append]; simpa using hown')
      have HO3 := Lib.hid ((HOB.out.alloc _).kept hgrow HAP.out.ne)
      have HP3 := Lib.hid (HAP.out.step (HOB.out.alloc (.cells #[.int .i64 y] 3)) (by simpa using hrow))
      clear hown' hgrow hown hrow hc3
      have hown := HO3.out
      have hc3 := (HB3.out.cell (p := ⟨bo, oo + j, none⟩) (lt_of_cell HC1.out)).trans HC1.out
      go_wp2_with (at_builtin; refine wpList_append_own_at _ rfl _ _ 22 rfl w.heap.size 3 i0 (.int .i64 0) 1 8 Try.underlying22 hi0 hz0 hz1 hz2 rfl (by decide) u6 k _ rfl (hown.alloc _) ⟨w3.heap.size, 0, none⟩ 1 1 [.int .i64 r] rfl rfl ?d1 ?d2 ?d3 ?d4 ?d5 ?_)
      try case d1 => intro j u hj; match j, hj with | 0, hj => simp at hj; subst hj; simp [Addr.add]
      try case d2 => first | rfl | (intro u hu; simp at hu; subst hu; rfl)
      case d3 => unfold maxLen; omega
      case d4 => omega
      case d5 => have := HB3.out.size; simp; omega
      intro v'' w4 hown' hgrow _ hrow
      have HB4 := Lib.hid (show Below w.heap.size w w4 from (bpush HB3.out _).grown hgrow (by have := HB3.out.size; simp; omega) (fun k hk => (hown.lt k hk).1))
      have HO4 := Lib.hid (show w4.ownsRow w.heap.size 3 1 v'' (k + 1) ((L.reverse.take (k + 1)).map (Value.int .i64)) by rw [HTB.out, List.map_append]; simpa using hown')
      have HM4 := Lib.hid ((HM3.out.alloc _).kept hgrow HP3.out.symm.ne)
      have HP4 := Lib.hid (HP3.out.symm.step (HM3.out.alloc (.cells #[.int .i64 r] 3)) (by simpa using hrow)).symm
      have hc4 := (HB4.out.cell (p := ⟨bo, oo + k, none⟩) (lt_of_cell HC0.out)).trans HC0.out
      clear hown' hgrow hown hrow hc3
      cases s with
      | false =>
        have HF := Lib.hid (falls_snoc (b := false) hkz HS.out ⟨fun h => (by cases h), fun h => (by cases h.1)⟩)
        go_wp2_with fail
        go_quiet (fail)
        go_wp2_with fail
        go_roundw
        case rel => exact ⟨k + 1, false, by omega, by go_num, rfl, HF, Lib.hid (own_dr HM4.out _), Lib.hid (own_dr HO4.out _), HP4, Lib.hid (below_drewN HB4.out _)⟩
        case measure => simp [intOf]; omega
      | true =>
        rcases Nat.eq_zero_or_pos k with hk1 | hk1
        · have he : ((k : Int) == 0) = true := by rw [beq_iff_eq]; omega
          have HF := Lib.hid (falls_snoc (b := true) hkz HS.out ⟨fun _ => ⟨rfl, .inl hk1⟩, fun _ => rfl⟩)
          go_wp2_with fail
          go_quiet (fail)
          go_wp2_with fail
          go_roundw
          case rel => exact ⟨k + 1, true, by omega, by go_num, by first | rfl | (simp; done) | (simp; omega), Lib.hid ⟨fun _ => HF.out.mp trivial, fun _ => rfl⟩, Lib.hid (own_dr HM4.out _), Lib.hid (own_dr HO4.out _), HP4, Lib.hid (below_drewN HB4.out _)⟩
          case measure => simp [intOf]; omega
        · have he : ((k : Int) == 0) = false := by rw [beq_eq_false_iff_ne]; omega
          obtain ⟨h, hh⟩ : ∃ h, h = k - 1 := ⟨_, rfl⟩
          have hhz : h < L.length := by omega
          obtain ⟨q, hq⟩ : ∃ q, q = L[h] := ⟨_, rfl⟩
          have hc5 := (HB4.out.cell (p := ⟨bo, oo + h, none⟩) (lt_of_cell (HCELL.out h hhz))).trans (HCELL.out h hhz)
          rw [← hq] at hc5
          have hw5 : IntKind.i64.wrap ((k : Int) - 1) = (h : Int) := by rw [IntWalk.i64_in _ (by omega)]; omega
          have hh1 : (h : Int) < (n : Int) := by omega
          have hh0 : (0 : Int) ≤ (h : Int) := by omega
          have hpq : (L[k] ≤ L[k - 1]) ↔ p ≤ q := by rw [HP.out, hq]; simp only [hh]
          by_cases hle : p ≤ q
          · have hd : decide (p ≤ q) = true := by simpa using hle
            have HF := Lib.hid (falls_snoc (b := true) hkz HS.out ⟨fun _ => ⟨rfl, .inr ⟨hk1, hpq.2 hle⟩⟩, fun _ => rfl⟩)
            clear hq hpq hh
            go_wp2_with fail
            go_quiet (fail)
            go_wp2_with fail
            go_roundw
            case rel => exact ⟨k + 1, true, by omega, by go_num, by first | rfl | (simp; done) | (simp; omega), Lib.hid ⟨fun _ => HF.out.mp trivial, fun _ => rfl⟩, Lib.hid (own_dr HM4.out _), Lib.hid (own_dr HO4.out _), HP4, Lib.hid (below_drewN HB4.out _)⟩
            case measure => simp [intOf]; omega
          · have hd : decide (p ≤ q) = false := by simpa using hle
            have HF := Lib.hid (falls_snoc (b := false) hkz HS.out ⟨fun h => (by cases h), fun ⟨_, h⟩ => by rcases h with h | ⟨_, h⟩; omega; exact absurd (hpq.1 h) hle⟩)
            clear hq hpq hh
            go_wp2_with fail
            go_quiet (fail)
            go_wp2_with fail
            go_roundw
            case rel => exact ⟨k + 1, false, by omega, by go_num, by first | rfl | (simp; done) | (simp; omega), HF, Lib.hid (own_dr HM4.out _), Lib.hid (own_dr HO4.out _), HP4, Lib.hid (below_drewN HB4.out _)⟩
            case measure => simp [intOf]; omega
    · have hge : ¬ (k : Int) < (n : Int) := by omega
      have hkn : k = n := by omega
      have HSR := Lib.hid (show s = risesZ L.reverse by
        rw [Bool.eq_iff_iff, HS.out, rises_back]
        exact ⟨fun h j hj => h j hj (by have := HZ.out; omega), fun h j hj _ => h j hj⟩)
      have HOM2 := Lib.hid (show wr.ownsRow w.heap.size 3 1 u5 n (M.map (Value.int .i64)) by have h := HOM.out; rw [hkn, List.take_of_length_le (by rw [← HMZ.out]; exact Nat.le_refl _)] at h; exact h)
      have HOB2 := Lib.hid (show wr.ownsRow w.heap.size 3 1 u6 n (L.reverse.map (Value.int .i64)) by have h := HOB.out; rw [hkn, List.take_of_length_le (by rw [← HRZ.out]; exact Nat.le_refl _)] at h; exact h)
      obtain ⟨Am, cm, rfl, hrm, hcm, hnm⟩ := own_slice HOM2.out
      obtain ⟨Ab, cb, rfl, hrb, hcb, hnb⟩ := own_slice HOB2.out
      have HRM := Lib.hid hrm
      have HRB := Lib.hid hrb
      have HEM := Lib.hid (enc_move x (l := L) (by intro h; have := HZ.out; rw [h] at this; simp at this; simp [this] at hpos))
      rw [← HM.out] at HEM
      clear hrm hrb hnm hnb hlt hkn HOM HOB HOM2 HOB2 HS HAP
      go_wp2_with fail
      refine (encode_any (some ⟨bo, oo, none⟩) n c L _ (HA.out.keep (Nat.le_refl _) HBW.out) HZ.out (by omega) HL.out).mono ?_
      rintro e w1 ⟨A1, c1, rfl, hr1, hc1, hn1', hB1⟩
      obtain ⟨q1, hq1⟩ : ∃ q, q = (encZ L).length := ⟨_, rfl⟩
      have hq19 : q1 ≤ 3000 := by rw [hq1]; exact enc_len_bd (by rw [← HZ.out]; exact hn3)
      rw [← hq1] at HEM ⊢
      have HRM1 := Lib.hid (HRM.out.keep (Nat.le_refl _) hB1)
      have HB1 := Lib.hid (bthen HBW.out hB1)
      have HRB1 := Lib.hid (HRB.out.keep (Nat.le_refl _) hB1)
      clear hr1 hc1 hn1' hB1 hq1
      go_wp2_with fail
      refine (encode_any Am n cm M _ HRM1.out HMZ.out (by omega) HMI.out).mono ?_
      rintro e w2 ⟨A2, c2, rfl, hr2, hc2, hn2, hB2⟩
      obtain ⟨E, hE⟩ : ∃ E, E = encZ M := ⟨_, rfl⟩
      have HEL := Lib.hid (show E.length ≤ 3000 by rw [hE]; exact enc_len_bd (by rw [← HMZ.out]; exact hn3))
      have HDE := Lib.hid (show decZ E = some M by rw [hE]; exact dec_iff.2 ⟨⟨HMI.out, by rw [← HMZ.out]; omega⟩, rfl⟩)
      have HEB := Lib.hid (show bytes E by rw [hE]; exact enc_byte)
      rw [← hE] at hr2 HEM ⊢
      obtain ⟨q2, hq2⟩ : ∃ q, q = E.length := ⟨_, rfl⟩
      rw [← hq2] at HEM HEL ⊢
      have HQ := Lib.hid hq2
      have HR2 := Lib.hid hr2
      have HN2 := Lib.hid hn2
      have HRM2 := Lib.hid (HRM1.out.keep (Nat.le_refl _) hB2)
      have HRB2 := Lib.hid (HRB1.out.keep (Nat.le_refl _) hB2)
      have HB2 := Lib.hid (bthen HB1.out hB2)
      obtain ⟨D, hD⟩ : ∃ D : Int, D = (q1 : Int) - (q2 : Int) := ⟨_, rfl⟩
      have hD1 : -9 ≤ D := by have := HEM.out; omega
      have hD2 : D ≤ 9 := by have := HEM.out; omega
      have hDw : IntKind.i64.wrap ((q1 : Int) - (q2 : Int)) = D := by have := HEM.out; have := HEL.out; rw [IntWalk.i64_in _ (by omega)]; omega
      have hd1 : decide (-9 ≤ D) = true := by simpa using hD1
      have hd2 : decide (D ≤ 9) = true := by simpa using hD2
      clear hE hq2 hr2 hn2 hB2 hc2 hD hq19
      go_wp2_with fail
      refine (decode_any A2 q2 c2 E _ HR2.out HQ.out (by have := HEL.out; omega) HEB.out HN2.out _ HDE.out.symm).mono ?_
      rintro e w3 ⟨⟨A3, c3, rfl, hr3, hc3, hn3'⟩, hB3⟩
      rw [← HMZ.out] at hc3 ⊢
      have HR3 := Lib.hid hr3
      have HRM3 := Lib.hid (HRM2.out.keep (Nat.le_refl _) hB3)
      have HRB3 := Lib.hid (HRB2.out.keep (Nat.le_refl _) hB3)
      have HB3 := Lib.hid (bthen HB2.out hB3)
      clear hr3 hn3' hB3
      go_wp2_with fail
      refine (alive_any _).mono ?_
      rintro e w5 ⟨rfl, hb⟩
      have HR5 := Lib.hid (HR3.out.keep (Nat.le_refl _) hb)
      have HRM5 := Lib.hid (HRM3.out.keep (Nat.le_refl _) hb)
      have HRB5 := Lib.hid (HRB3.out.keep (Nat.le_refl _) hb)
      have HB5 := Lib.hid (bthen HB3.out hb)
      clear hb
      go_wp2_with fail
      refine (ints_any A3 Am n c3 n cm M M _ HR5.out HRM5.out HMZ.out HMZ.out (by omega) true (by simp)).mono ?_
      rintro e w6 ⟨rfl, hq6⟩
      have HRB6 := Lib.hid (show Row w6 Ab (L.reverse.map (Value.int .i64)) by obtain ⟨m, rfl⟩ := hq6; exact HRB5.out.keep (Nat.le_refl _) (below_drewN (Below.refl _ _) m))
      have HB6 := Lib.hid (show Below w.heap.size w w6 by obtain ⟨m, rfl⟩ := hq6; exact below_drewN HB5.out m)
      clear hq6
      go_wp2_with fail
      refine (sorted_any Ab n cb L.reverse _ HRB6.out HRZ.out (by omega) s HSR.out).mono ?_
      rintro e w7 ⟨rfl, hq7⟩
      have HB7 := Lib.hid (show Below w.heap.size w w7 by obtain ⟨m, rfl⟩ := hq7; exact below_drewN HB6.out m)
      clear hq7
      go_wp2_with fail
      go_ret
      exact ⟨by cases s <;> first | rfl | simp, HB7.out⟩
end Go.Proofs.Ytedldajlioeioaa
