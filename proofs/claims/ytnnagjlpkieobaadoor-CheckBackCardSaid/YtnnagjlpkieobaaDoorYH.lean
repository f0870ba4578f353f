/- All blocks that bytes begin with, as the document says; whether two lists are one. -/
import Derived.Test.YtnnagjlpkieobaaDoorYG
namespace Go.Proofs.YtnnagjlpkieobaaDoor
open Go.RowKit
set_option linter.unusedSimpArgs false
set_option linter.unusedVariables false
set_option maxRecDepth 100000 in
set_option maxHeartbeats 4000000 in
theorem rblocks_any (A : Option Addr) (n c : Nat) (bs : List Int) (w : World) (hA : Row w A (bs.map (Value.int .u8))) (hz : n = bs.length) (hnc : n ≤ c) (hn : n ≤ 900000) (hb : bytes bs) (hnil : A = none → c = 0) :
    Calls Tryd.prog 14 #[.slice A n c] w (BlocksPost w (blocksZ bs)) := by
  obtain ⟨i0, hi0, hz0, hz1, hz2⟩ := info_parts Tryd.info22
  have HA := Lib.hid hA
  have HZ := Lib.hid hz
  have HB := Lib.hid hb
  have HNIL := Lib.hid hnil
  obtain ⟨r, hr⟩ : ∃ r, r = blocksZ bs := ⟨_, rfl⟩
  rw [← hr]
  have HR := Lib.hid hr
  clear hA hz hb hnil hr
  go_enter Tryd.func14, Tryd.ntmps14
  go_wp2_with fail
  go_loopw [4, 5] (fun v i wr => ∃ (at' k : Nat) (vs : List Value) (D : List (List Int)), at' ≤ n ∧ k = D.length ∧ k ≤ at' ∧ i = .int .i64 at' ∧ Hid (wr.ownsRow w.heap.size 22 1 v k vs) ∧ Hid (Rws wr v.ownBlock vs D) ∧ Hid (Below w.heap.size w wr) ∧ Hid (r = (D ++ (blocksZ (bs.drop at')).1, at' + (blocksZ (bs.drop at')).2))) (fun _ i _ => n - (intOf i).toNat)
  case atStart => exact ⟨0, 0, [], [], by omega, rfl, by omega, rfl, Lib.hid (World.ownsRow_nil _ _ _ _), Lib.hid (Rws.nil _ _), Lib.hid (Below.refl _ _), Lib.hid (by rw [HR.out]; simp)⟩
  case round =>
    obtain ⟨p, k, vs, D, hp, hk, hkp, rfl, HO, HS, HBW, HE⟩ := hrel
    have HK := Lib.hid hk
    clear hk
    obtain ⟨A2, hA2⟩ : ∃ A2, A2 = if c = p then A else A.map (·.add p) := ⟨_, rfl⟩
    have HA2 := Lib.hid (show Row w A2 ((bs.drop p).map (Value.int .u8)) by
      rw [hA2]
      split
      · left; rw [List.drop_of_length_le (by have := HZ.out; omega)]; rfl
      · exact row_drop HA.out p)
    have HN2 := Lib.hid (show A2 = none → c - p = 0 by
      intro h
      rw [hA2] at h
      split at h
      · have := HNIL.out h; omega
      · cases A with
        | none => have := HNIL.out rfl; omega
        | some a => cases h)
    have HZ2 := Lib.hid (show n - p = (bs.drop p).length by rw [List.length_drop, ← HZ.out])
    have HB2 := Lib.hid (show bytes (bs.drop p) from fun z hz => HB.out z (List.mem_of_mem_drop hz))
    cases ho : firstZ (bs.drop p) with
    | none =>
      have HE2 := Lib.hid (show r = (D, p) by rw [HE.out, blocksZ_none ho]; simp)
      have HF := Lib.hid ho
      clear ho HE
      clear hA2 HA2 HN2
      have fin : ∀ w2 : World, Below wr.heap.size wr w2 → ∃ A c vs, (Value.tuple #[u4, .int .i64 (p : Int)]) = .tuple #[.slice A r.1.length c, .int .i64 r.2] ∧ Row w2 A vs ∧ Rws w2 none vs r.1 ∧ r.1.length ≤ c ∧ (A = none → c = 0) ∧ Below w.heap.size w w2 := by
        intro w2 hb2
        obtain ⟨A4, c4, he, h1, h2, h3⟩ := own_slice (own_below HO.out hb2)
        exact ⟨A4, c4, vs, by rw [HE2.out, he]; show _ = Value.tuple #[.slice A4 D.length c4, .int .i64 p]; rw [← HK.out], h1, by rw [HE2.out]; exact (HS.out.keep hb2).free, by rw [HE2.out]; show D.length ≤ c4; rw [← HK.out]; exact h2, h3, bthen HBW.out hb2⟩
      have FIN := Lib.hid fin
      clear fin
      by_cases hcp : c = p
      · have hA0 := HA.out.keep (Nat.le_refl _) HBW.out
        have hd0 : bs.drop p = [] := List.drop_of_length_le (by have := HZ.out; omega)
        have HA0 := Lib.hid (show Row wr A ((bs.drop p).map (Value.int .u8)) from .inl (by rw [hd0]; rfl))
        clear hA0 hd0
        go_wp2_with fail
        refine (rfirst_any A (n - p) 0 (bs.drop p) _ HA0.out HZ2.out (by omega) (by omega) HB2.out (fun _ => rfl)).mono ?_
        rw [HF.out]
        rintro e w2 ⟨rfl, hb2⟩
        have HBB := Lib.hid hb2
        clear hb2
        go_wp2_with fail
        go_ret2
        obtain ⟨A4, c4, vs4, he, h⟩ := FIN.out _ HBB.out
        exact ⟨A4, c4, vs4, by rw [← he]; rfl, h⟩
      · have HN0 := Lib.hid (show A.map (·.add p) = none → c - p = 0 by
          intro h
          cases A with
          | none => have := HNIL.out rfl; omega
          | some a => cases h)
        go_wp2_with fail
        refine (rfirst_any (A.map (·.add p)) (n - p) (c - p) (bs.drop p) _ (row_drop (HA.out.keep (Nat.le_refl _) HBW.out) p) HZ2.out (by omega) (by omega) HB2.out HN0.out).mono ?_
        rw [HF.out]
        rintro e w2 ⟨rfl, hb2⟩
        have HBB := Lib.hid hb2
        clear hb2
        go_wp2_with fail
        go_ret2
        obtain ⟨A4, c4, vs4, he, h⟩ := FIN.out _ HBB.out
        exact ⟨A4, c4, vs4, by rw [← he]; rfl, h⟩
    | some q =>
      obtain ⟨x, m⟩ := q
      have hbd := firstZ_bd ho
      rw [← HZ2.out] at hbd
      obtain ⟨hm1, hm2, hm3⟩ := hbd
      have HE2 := Lib.hid (show r = ((D ++ [x]) ++ (blocksZ (bs.drop (p + m))).1, (p + m) + (blocksZ (bs.drop (p + m))).2) by
        rw [HE.out, blocksZ_some ho, List.drop_drop]; simp [Nat.add_assoc])
      have HF := Lib.hid ho
      have hw1 : IntKind.i64.wrap ((p : Int) + (m : Int)) = (p : Int) + (m : Int) := IntWalk.i64_in _ (by omega)
      clear ho HE
      clear hA2 HA2 HN2
      have hcp : ¬ c = p := by omega
      have HN0 := Lib.hid (show A.map (·.add p) = none → c - p = 0 by
        intro h
        cases A with
        | none => have := HNIL.out rfl; omega
        | some a => cases h)
      go_wp2_with fail
      refine (rfirst_any (A.map (·.add p)) (n - p) (c - p) (bs.drop p) _ (row_drop (HA.out.keep (Nat.le_refl _) HBW.out) p) HZ2.out (by omega) (by omega) HB2.out HN0.out).mono ?_
      rw [HF.out]
      rintro e w2 ⟨A3, c3, rfl, hr3, h52, h53, hal, hb2⟩
      obtain ⟨z, hz⟩ : ∃ z, z = x.length := ⟨_, rfl⟩
      rw [← hz] at h52 ⊢
      have hown := own_below HO.out hb2
      have hfar : ∀ b off, A3 = some ⟨b, off, none⟩ → some b ≠ u4.ownBlock := by
        intro b off hA e
        obtain ⟨off', h0⟩ := hal b off hA
        have h1 : b < w.heap.size := by
          cases hAA : A with
          | none => rw [hAA] at h0; cases h0
          | some ad =>
            have hr := HA.out
            rw [hAA] at h0 hr
            obtain ⟨b1, off1, e1, hc1⟩ := hr.cell (i := 0) (by have := HZ.out; omega)
            cases e1
            simp only [Option.map_some, Option.some.injEq] at h0
            have h2 : (({ block := b1, off := off1 } : Addr).add p).block = b1 := by unfold Addr.add; split <;> rfl
            have h3 : b1 = b := by
              have := congrArg Addr.block h0
              rw [← h2]; simpa using this
            rw [← h3]; exact lt_of_cell hc1
        have h2 := (HO.out.lt b e.symm).1
        omega
      have HS2 := Lib.hid ((HS.out.keep hb2).snoc hz hr3 h52 h53 hfar)
      have HBW2 := Lib.hid (bthen HBW.out hb2)
      clear hb2 hr3 h53 hz hfar hal
      go_wp2_with (at_builtin; refine wpList_append_own_at _ rfl _ _ 29 rfl w.heap.size 22 i0 (.slice none 0 0) 1 24 Tryd.underlying29 hi0 hz0 hz1 hz2 rfl (by decide) _ _ _ rfl (hown.alloc _) ⟨w2.heap.size, 0, none⟩ 1 1 [.slice A3 z c3] rfl rfl ?c1 ?c2 ?c3 ?c4 ?c5 ?_)
      case c1 => intro j u hj; match j, hj with | 0, hj => simp at hj; subst hj; simp [Addr.add]
      case c2 => intro u hu; simp at hu; subst hu; rfl
      case c3 => unfold maxLen; omega
      case c4 => omega
      case c5 => have := HBW2.out.size; simp; omega
      intro v' w3 hown' hgrow _ hrow
      have HB3 := Lib.hid (show Below w.heap.size w w3 from (bpush HBW2.out _).grown hgrow (by have := HBW2.out.size; simp; omega) (fun k hk => (hown.lt k hk).1))
      have HS3 := Lib.hid ((HS2.out.keep (bpush (Below.refl _ _) _)).step hgrow (by simpa using hrow))
      have HO3 := Lib.hid hown'
      clear hown' hgrow hrow hown
      go_wp2_with fail
      go_roundw
      case rel => exact ⟨p + m, k + 1, _, D ++ [x], by omega, by rw [HK.out]; simp, by omega, by go_num, HO3, HS3, HB3, HE2⟩
      case measure => simp [intOf]; omega
theorem Rws.at {w : World} {row : Option Nat} {vs : List Value} {L : List (List Int)} {A : Option Addr} {k : Nat} {xs : List Int} (h : Rws w row vs L) (hA : Row w A vs) (hk : L[k]? = some xs) :
    ∃ b off A2 c2, A = some ⟨b, off, none⟩ ∧ w.cell? ⟨b, off + k, none⟩ = some (.slice A2 xs.length c2) ∧ Row w A2 (xs.map (Value.int .u8)) ∧ xs.length ≤ c2 ∧ (A2 = none → c2 = 0) := by
  obtain ⟨A2, c2, h1, h2, h3, h4, _⟩ := h.2 k xs hk
  rcases hA with hA | ⟨b, off, rfl, hc⟩
  · rw [hA] at h1; simp at h1
  · exact ⟨b, off, A2, c2, rfl, hc k _ h1, h2, h3, h4⟩
theorem str_ne {a b : ByteArray} (h : a ≠ b) : (a.toList == b.toList) = false := by
  rw [ByteArray.toList_eq, ByteArray.toList_eq, beq_eq_false_iff_ne]
  exact fun e => h (by cases a; cases b; congr 1; exact Array.toList_inj.1 e)
theorem Rws.drewN {w : World} {row : Option Nat} {vs : List Value} {L : List (List Int)} (h : Rws w row vs L) (m : Nat) : Rws (w.drewN m) row vs L := h.keep (below_drewN (Below.refl _ _) m)
set_option maxRecDepth 100000 in
set_option maxHeartbeats 4000000 in
theorem same_any (A B : Option Addr) (na ca nb cb : Nat) (va vb : List Value) (La Lb : List (List Int)) (w : World) (hA : Row w A va) (hB : Row w B vb) (hLa : Rws w none va La) (hLb : Rws w none vb Lb) (hna : na = La.length) (hnb : nb = Lb.length) (hn : na ≤ 1000000) (bA : ∀ xs ∈ La, bytes xs) (bB : ∀ xs ∈ Lb, bytes xs) :
    Calls Tryd.prog 17 #[.slice A na ca, .slice B nb cb] w fun e w' => e = .returned (.bool (decide (La = Lb))) ∧ ∃ m, w' = w.drewN m := by
  obtain ⟨r, hr⟩ : ∃ r, r = decide (La = Lb) := ⟨_, rfl⟩
  rw [← hr]
  have HR := Lib.hid hr
  have HA := Lib.hid hA
  have HB := Lib.hid hB
  have HLA := Lib.hid hLa
  have HLB := Lib.hid hLb
  have HNA := Lib.hid hna
  have HNB := Lib.hid hnb
  have HBA := Lib.hid bA
  have HBB := Lib.hid bB
  clear hr hA hB hLa hLb hna hnb bA bB
  by_cases hne : na = nb
  · subst hne
    go_enter Tryd.func17, Tryd.ntmps17
    go_wp2_with fail
    go_loopw [5] (fun i wr => ∃ k : Nat, k ≤ na ∧ i = .int .i64 k ∧ Hid (La.take k = Lb.take k) ∧ Hid (∃ m, wr = w.drewN m)) (fun i _ => na - (intOf i).toNat)
    case atStart => exact ⟨0, by omega, rfl, Lib.hid (by simp), Lib.hid ⟨0, rfl⟩⟩
    case round =>
      obtain ⟨k, hk, rfl, HE, HM⟩ := hrel
      obtain ⟨m, hm⟩ := HM.out
      by_cases hlt : k < na
      · have hka : k < La.length := by have := HNA.out; omega
        have hkb : k < Lb.length := by have := HNB.out; omega
        obtain ⟨X, hX⟩ : ∃ X, X = La[k] := ⟨_, rfl⟩
        obtain ⟨Y, hY⟩ : ∃ Y, Y = Lb[k] := ⟨_, rfl⟩
        obtain ⟨ba, oa, A2, c2, rfl, hc2, hr2, _, _⟩ := HLA.out.at HA.out (k := k) (xs := X) (by rw [hX]; exact List.getElem?_eq_getElem hka)
        obtain ⟨bb, ob, B2, d2, rfl, hd2, hs2, _, _⟩ := HLB.out.at HB.out (k := k) (xs := Y) (by rw [hY]; exact List.getElem?_eq_getElem hkb)
        obtain ⟨nx, hnx⟩ : ∃ nx, nx = X.length := ⟨_, rfl⟩
        obtain ⟨ny, hny⟩ : ∃ ny, ny = Y.length := ⟨_, rfl⟩
        obtain ⟨q1, hq1⟩ : ∃ q, q = strOfNums X := ⟨_, rfl⟩
        obtain ⟨q2, hq2⟩ : ∃ q, q = strOfNums Y := ⟨_, rfl⟩
        rw [← hnx] at hc2
        rw [← hny] at hd2
        have hc3 : wr.cell? ⟨ba, oa + k, none⟩ = some (.slice A2 nx c2) := by rw [hm]; simpa using hc2
        have hd3 : wr.cell? ⟨bb, ob + k, none⟩ = some (.slice B2 ny d2) := by rw [hm]; simpa using hd2
        have v1 : ∀ r, Sem.run Tryd.prog (convert 22 9 (.slice A2 nx c2)) (wr.drewN r) = .ok (.string q1) (wr.drewN r) := fun r => by
          rw [hq1, hm, World.drewN_drewN]; exact conv_any (hr2.keep (Nat.le_refl _) (below_drewN (Below.refl _ _) _)) hnx
        have v2 : ∀ r, Sem.run Tryd.prog (convert 22 9 (.slice B2 ny d2)) (wr.drewN r) = .ok (.string q2) (wr.drewN r) := fun r => by
          rw [hq2, hm, World.drewN_drewN]; exact conv_any (hs2.keep (Nat.le_refl _) (below_drewN (Below.refl _ _) _)) hny
        have HQ := Lib.hid (show q1 = q2 ↔ X = Y by
          rw [hq1, hq2]
          exact ⟨strOf_inj (HBA.out X (by rw [hX]; exact List.getElem_mem _)) (HBB.out Y (by rw [hY]; exact List.getElem_mem _)), fun h => by rw [h]⟩)
        have HX := Lib.hid hX
        have HY := Lib.hid hY
        have HM2 := Lib.hid (fun q => ⟨m + q, by rw [hm, World.drewN_drewN]⟩ : ∀ q, ∃ m, wr.drewN q = w.drewN m)
        have hk0 : (0 : Int) ≤ (k : Int) := by omega
        have hki : (k : Int) < (na : Int) := by omega
        clear hX hY hnx hny hq1 hq2 hc2 hd2 hr2 hs2 hm HM
        by_cases e : q1 = q2
        · have HE2 := Lib.hid (show La.take (k + 1) = Lb.take (k + 1) by
            rw [take_snoc _ _ hka, take_snoc _ _ hkb, HE.out, ← HX.out, ← HY.out, HQ.out.1 e])
          subst e
          clear HQ HE
          go_wp2_with fail
          go_quiet (fail)
          go_wp2_with fail
          go_roundw
          case rel => exact ⟨k + 1, by omega, by go_num, HE2, Lib.hid (HM2.out _)⟩
          case measure => simp [intOf]; omega
        · obtain rfl : r = false := by
            rw [HR.out]
            refine decide_eq_false (fun h => e (HQ.out.2 ?_))
            rw [HX.out, HY.out]; simp only [h]
          have tt := str_ne e
          clear HQ HE HR e
          go_wp2_with fail
          go_quiet (fail)
          go_wp2_with fail
          go_ret
          exact ⟨rfl, HM2.out _⟩
      · have hki : ¬ (k : Int) < (na : Int) := by omega
        obtain rfl : r = true := by
          rw [HR.out]
          refine decide_eq_true ?_
          have := HE.out
          rwa [List.take_of_length_le (by have := HNA.out; omega), List.take_of_length_le (by have := HNB.out; omega)] at this
        have HM2 := HM
        clear HR HE hm
        go_wp2_with fail
        go_ret
        exact ⟨rfl, HM2.out⟩
  · obtain rfl : r = false := by
      rw [HR.out]
      exact decide_eq_false (fun h => hne (by rw [HNA.out, HNB.out, h]))
    have hd : ((na : Int) == (nb : Int)) = false := by simp; omega
    have hd2 : ((na : Int) != (nb : Int)) = true := by simp; omega
    clear HR
    go_enter Tryd.func17, Tryd.ntmps17
    go_wp2_with fail
    go_ret
    exact ⟨rfl, 0, rfl⟩
end Go.Proofs.YtnnagjlpkieobaaDoor
