/- The document's rising numbers. -/
import Derived.Test.YtohdkidfhohmlaaZI
namespace Go.Proofs.Ytohdkidfhohmlaa
open Go.RowKit
set_option linter.unusedSimpArgs false
set_option linter.unusedVariables false
def RisSt (zs : List Int) (i : Nat) (r : List Int) : Prop := r.Pairwise (· < ·) ∧ ∀ e, e ∈ r ↔ e ∈ zs.take i
theorem RisSt.snoc {zs : List Int} {i : Nat} {r : List Int} (h : RisSt zs i r) (hi : i < zs.length) (hx : ∀ e ∈ r, e < zs[i]) : RisSt zs (i + 1) (r ++ [zs[i]]) := by
  obtain ⟨h1, h2⟩ := h
  exact ⟨pw_snoc h1 hx, fun e => by rw [take_snoc zs i hi, List.mem_append, List.mem_append, h2]⟩
theorem RisSt.same {zs : List Int} {i : Nat} {r : List Int} (h : RisSt zs i r) (hi : i < zs.length) (hx : zs[i] ∈ r) : RisSt zs (i + 1) r := by
  obtain ⟨h1, h2⟩ := h
  refine ⟨h1, fun e => ?_⟩
  rw [take_snoc zs i hi, List.mem_append, ← h2]
  exact ⟨.inl, fun h => h.elim id (fun h => by simp at h; exact h ▸ hx)⟩
theorem RisSt.ins {zs : List Int} {i : Nat} {r : List Int} {k : Nat} (h : RisSt zs i r) (hi : i < zs.length) (hk : k < r.length) (h1 : ∀ e ∈ r.take k, e < zs[i]) (h2 : zs[i] < r[k]) : RisSt zs (i + 1) (r.take k ++ [zs[i]] ++ r.drop k) := by
  obtain ⟨g1, g2⟩ := h
  have hsplit : r = r.take k ++ r.drop k := (List.take_append_drop k r).symm
  have hp := g1
  rw [hsplit] at hp
  obtain ⟨p1, p2, p3⟩ := List.pairwise_append.1 hp
  have hd : r.drop k = r[k] :: r.drop (k + 1) := List.drop_eq_getElem_cons hk
  have hge : ∀ e ∈ r.drop k, zs[i] < e := by
    rw [hd] at p2 ⊢
    intro e he
    rcases List.mem_cons.1 he with rfl | he
    · exact h2
    · exact Int.lt_trans h2 ((List.pairwise_cons.1 p2).1 e he)
  refine ⟨List.pairwise_append.2 ⟨pw_snoc p1 h1, p2, fun a ha b hb => ?_⟩, fun e => ?_⟩
  · rcases List.mem_append.1 ha with ha | ha
    · exact p3 a ha b hb
    · simp at ha; subst ha; exact hge b hb
  · rw [take_snoc zs i hi, List.mem_append, List.mem_append, List.mem_append, ← g2]
    constructor
    · rintro ((h | h) | h)
      · exact .inl (List.mem_of_mem_take h)
      · exact .inr h
      · exact .inl (List.mem_of_mem_drop h)
    · rintro (h | h)
      · rw [hsplit, List.mem_append] at h
        rcases h with h | h
        · exact .inl (.inl h)
        · exact .inr h
      · exact .inl (.inr h)
theorem own_cell {B : Nat} {w : World} {g m cap : Nat} {r : List Int} (h : w.ownsRow B 3 1 (.slice (some ⟨g, 0, none⟩) m cap) m (r.map (Value.int .i64))) {j : Nat} (hj : j < r.length) : w.cell? ⟨g, j, none⟩ = some (.int .i64 r[j]) := by
  have hm : m = r.length := by have := h.1; simpa using this.symm
  obtain ⟨g', cap', he, _, hr⟩ := Row.of_own h (by omega)
  cases he
  obtain ⟨b, off, he2, hc⟩ := hr.cell hj
  cases he2
  simpa using hc
theorem own_head {B : Nat} {w : World} {v : Value} {m : Nat} {r : List Int} (h : w.ownsRow B 3 1 v m (r.map (Value.int .i64))) (hm : 0 < m) : ∃ g cap, v = .slice (some ⟨g, 0, none⟩) m cap ∧ m ≤ cap ∧ B ≤ g ∧ g < w.heap.size ∧ cap ≤ maxLen := by
  rcases h.2 with ⟨_, h0⟩ | ⟨g, cap, cur, hv, hb, hc, h1, h2, _⟩
  · omega
  · exact ⟨g, cap, hv, h1, hb, Blk.lt hc, h2⟩
theorem owns_lower {w : World} {base base' : Nat} {e : TypeId} {size : Nat} {v : Value} {n : Nat} {xs : List Value} (h : w.ownsRow base e size v n xs) (hb : base' ≤ base) : w.ownsRow base' e size v n xs := by
  rcases h.2 with h0 | ⟨g, cap, cur, h1, h2, h3⟩
  · exact ⟨h.1, .inl h0⟩
  · exact ⟨h.1, .inr ⟨g, cap, cur, h1, by omega, h3⟩⟩
def RisPost (w : World) (zs : List Int) (e : Ending) (w' : World) : Prop := ∃ r, r.Pairwise (· < ·) ∧ (∀ e, e ∈ r ↔ e ∈ zs) ∧ r.length ≤ zs.length ∧ ListPost w r e w'
set_option maxRecDepth 100000 in
set_option maxHeartbeats 4000000 in
theorem rising_any (A : Option Addr) (n c : Nat) (zs : List Int) (w : World) (hA : Row w A (zs.map (Value.int .i64))) (hz : n = zs.length) (hn : n ≤ 1000000) :
    Calls Try.prog 16 #[.slice A n c] w (RisPost w zs) := by
  obtain ⟨i0, hi0, hz0, hz1, hz2⟩ := info_parts Try.info3
  have HZ := Lib.hid hz
  have HA := Lib.hid hA
  clear hz hA
  go_enter Try.func16, Try.ntmps16
  go_wp2_with fail
  go_loopw [3, 4] (fun v a wr => ∃ (i : Nat) (r : List Int) (m : Nat), i ≤ n ∧ a = .int .i64 i ∧ m ≤ i ∧ Hid (m = r.length) ∧ Hid (RisSt zs i r) ∧ Hid (r = [] → v = .slice none 0 0) ∧ Hid (wr.ownsRow w.heap.size 3 1 v m (r.map (Value.int .i64))) ∧ Hid (Below w.heap.size w wr)) (fun _ a _ => n - (intOf a).toNat)
  case atStart => exact ⟨0, [], 0, by omega, rfl, by omega, Lib.hid rfl, Lib.hid ⟨.nil, by simp⟩, Lib.hid (fun _ => rfl), Lib.hid (World.ownsRow_nil _ _ _ _), Lib.hid (Below.refl _ _)⟩
  case round =>
    obtain ⟨i, r, m, hi, rfl, hm, HM, HST, HN, HO, HB⟩ := hrel
    by_cases hlt : i < n
    · have hiz : i < zs.length := by have := HZ.out; omega
      obtain ⟨b, off, hA', c0⟩ := (HA.out.keep (Nat.le_refl _) HB.out).cell hiz
      obtain ⟨x, hx⟩ : ∃ x, x = zs[i] := ⟨_, rfl⟩
      rw [← hx] at c0
      have hbw : b < w.heap.size := by
        rcases HA.out with h0 | ⟨b', off', he, hcc⟩
        · have hz0 : zs = [] := by simpa using h0
          subst hz0; simp at hiz
        · rw [hA'] at he; cases he; exact lt_of_cell (hcc i _ (by rw [List.getElem?_map, List.getElem?_eq_getElem hiz]; rfl))
      have hi1 : (i : Int) < (n : Int) := by omega
      have hi0' : (0 : Int) ≤ (i : Int) := by omega
      have hcx9 : ∀ wx, Below w.heap.size w wx → wx.cell? ⟨b, off + i, none⟩ = some (.int .i64 x) := fun wx h => by
        have h1 := h.cell (p := ⟨b, off + i, none⟩) hbw
        have h2 := HB.out.cell (p := ⟨b, off + i, none⟩) hbw
        rw [h1, ← h2]; exact c0
      have HCX := Lib.hid hcx9
      have HX := Lib.hid hx
      clear hcx9 hx
      subst hA'
      rcases Nat.eq_zero_or_pos m with hm0 | hm0
      · have hr0 : r = [] := List.length_eq_zero_iff.1 (by rw [← HM.out]; exact hm0)
        subst hr0 hm0
        have hv := HN.out rfl
        subst hv
        have HST2 := Lib.hid (show RisSt zs (i + 1) ([] ++ [x]) by rw [HX.out]; exact HST.out.snoc hiz (by simp))
        go_wp2_with fail
        go_quiet (fail)
        obtain ⟨wd, hwd⟩ : ∃ wd, wd = wr.drewN nq := ⟨_, rfl⟩
        replace HO := Lib.hid (show wd.ownsRow w.heap.size 3 1 (.slice none 0 0) 0 (([] : List Int).map (Value.int .i64)) by rw [hwd]; exact HO.out)
        replace HB := Lib.hid (show Below w.heap.size w wd by rw [hwd]; exact below_drewN HB.out _)
        have c1 := HCX.out wd HB.out
        rw [← hwd]
        clear hwd c0
        have hown := HO.out
        go_wp2_with (at_builtin; refine wpList_append_own _ rfl _ _ 22 rfl w.heap.size 3 i0 (.int .i64 0) 1 8 Try.underlying22 hi0 hz0 hz1 hz2 rfl (by decide) (.slice none 0 0) 0 [] rfl (hown.alloc _) ⟨wd.heap.size, 0, none⟩ 1 1 [.int .i64 x] rfl rfl ?c1 ?c2 ?c3 ?c4 ?c5 ?_)
        case c1 => intro j u hj; match j, hj with | 0, hj => simp at hj; subst hj; simp [Addr.add]
        case c2 => intro u hu; simp at hu; subst hu; rfl
        case c3 => unfold maxLen; omega
        case c4 => omega
        case c5 => have := HB.out.size; simp; omega
        intro v' w3 hown' hgrow _
        have HB3 := Lib.hid (show Below w.heap.size w w3 from (bpush HB.out _).grown hgrow (by have := HB.out.size; simp; omega) (fun k hk => (hown.lt k hk).1))
        have HO3 := Lib.hid (show w3.ownsRow w.heap.size 3 1 v' (0 + 1) (([] ++ [x]).map (Value.int .i64)) by simpa using hown')
        have HM3 := Lib.hid (show 0 + 1 = ([] ++ [x]).length by rw [List.length_append, ← HM.out]; rfl)
        have HN3 := Lib.hid (show ([] ++ [x] : List Int) = [] → v' = .slice none 0 0 from fun h => by simp at h)
        clear hown' hgrow hown
        go_wp2
        go_roundw
        case rel => exact ⟨i + 1, [] ++ [x], 0 + 1, by omega, by first | rfl | go_num, by omega, HM3, HST2, HN3, HO3, HB3⟩
        case measure => simp [intOf]; omega
      · obtain ⟨g, cap, rfl, hcap, hg, hgw, hcm⟩ := own_head HO.out hm0
        obtain ⟨j, hj⟩ : ∃ j, m = j + 1 := ⟨m - 1, by omega⟩
        have hjr : j < r.length := by have := HM.out; omega
        obtain ⟨y, hy⟩ : ∃ y, y = r[j] := ⟨_, rfl⟩
        have hcy := own_cell HO.out hjr
        rw [← hy] at hcy
        have hs : IntKind.i64.wrap ((m : Int) - 1) = (j : Int) := by rw [IntWalk.i64_in _ (by omega)]; omega
        have hs2 : (m : Int) - 1 = (j : Int) := by omega
        have hj1 : (j : Int) < (m : Int) := by omega
        have hme : ((m : Int) == 0) = false := by simp; omega
        have hme2 : (m == 0) = false := by simp; omega
        have HCAP := Lib.hid hcap
        have HG := Lib.hid hg
        have HJ := Lib.hid hj
        have hgb : g ≠ b := by omega
        by_cases hxy : y < x
        · have HST2 := Lib.hid (show RisSt zs (i + 1) (r ++ [x]) by
            rw [HX.out]; refine HST.out.snoc hiz (fun e he => ?_)
            obtain ⟨q, hq, rfl⟩ := List.getElem_of_mem he
            rw [← HX.out]
            rcases Nat.eq_or_lt_of_le (show q ≤ j by have := HM.out; omega) with h | h
            · subst h; rw [← hy]; exact hxy
            · have := List.pairwise_iff_getElem.1 HST.out.1 q j hq hjr h; omega)
          have hd : decide (y < x) = true := by simp; omega
          clear hy hxy hjr hj hm0
          go_wp2_with fail
          go_quiet (fail)
          obtain ⟨wd, hwd⟩ : ∃ wd, wd = wr.drewN nq := ⟨_, rfl⟩
          replace HO := Lib.hid (show wd.ownsRow w.heap.size 3 1 (.slice (some ⟨g, 0, none⟩) m cap) m (r.map (Value.int .i64)) by rw [hwd]; exact HO.out)
          replace HB := Lib.hid (show Below w.heap.size w wd by rw [hwd]; exact below_drewN HB.out _)
          have c1 := HCX.out wd HB.out
          rw [← hwd]
          clear hwd c0 hcy
          have hown := HO.out
          go_wp2_with (at_builtin; refine wpList_append_own _ rfl _ _ 22 rfl w.heap.size 3 i0 (.int .i64 0) 1 8 Try.underlying22 hi0 hz0 hz1 hz2 rfl (by decide) _ _ _ rfl (hown.alloc _) ⟨wd.heap.size, 0, none⟩ 1 1 [.int .i64 x] rfl rfl ?c1 ?c2 ?c3 ?c4 ?c5 ?_)
          case c1 => intro j u hj; match j, hj with | 0, hj => simp at hj; subst hj; simp [Addr.add]
          case c2 => intro u hu; simp at hu; subst hu; rfl
          case c3 => unfold maxLen; omega
          case c4 => omega
          case c5 => have := HB.out.size; simp; omega
          intro v' w3 hown' hgrow _
          have HB3 := Lib.hid (show Below w.heap.size w w3 from (bpush HB.out _).grown hgrow (by have := HB.out.size; simp; omega) (fun k hk => (hown.lt k hk).1))
          have HO3 := Lib.hid (show w3.ownsRow w.heap.size 3 1 v' (m + 1) ((r ++ [x]).map (Value.int .i64)) by simpa using hown')
          have HM3 := Lib.hid (show m + 1 = (r ++ [x]).length by rw [List.length_append, ← HM.out]; rfl)
          have HN3 := Lib.hid (show r ++ [x] = [] → v' = .slice none 0 0 from fun h => by simp at h)
          clear hown' hgrow hown
          go_wp2
          go_roundw
          case rel => exact ⟨i + 1, r ++ [x], m + 1, by omega, by first | rfl | go_num, by omega, HM3, HST2, HN3, HO3, HB3⟩
          case measure => simp [intOf]; omega
        · have hd : decide (y < x) = false := by simp; omega
          have HXY := Lib.hid (show x ≤ r[j] by rw [← hy]; omega)
          clear hy hxy hj hm0
          go_wp2_with fail
          go_quiet (fail)
          obtain ⟨wd, hwd⟩ : ∃ wd, wd = wr.drewN nq := ⟨_, rfl⟩
          replace HO := Lib.hid (show wd.ownsRow w.heap.size 3 1 (.slice (some ⟨g, 0, none⟩) m cap) m (r.map (Value.int .i64)) by rw [hwd]; exact HO.out)
          replace HB := Lib.hid (show Below w.heap.size w wd by rw [hwd]; exact below_drewN HB.out _)
          rw [← hwd]
          clear hwd c0 hcy
          go_wp2_with fail
          clear hgw
          go_loopw [5] (fun a wx => ∃ k : Nat, k ≤ j ∧ a = .int .i64 k ∧ Hid (∀ e ∈ r.take k, e < x) ∧ Hid (wx.ownsRow w.heap.size 3 1 (.slice (some ⟨g, 0, none⟩) m cap) m (r.map (Value.int .i64))) ∧ Hid (Below w.heap.size w wx)) (fun a _ => j + 1 - (intOf a).toNat)
          case atStart => exact ⟨0, by omega, rfl, Lib.hid (by simp), HO, HB⟩
          case round =>
            clear HO HB
            obtain ⟨k, hk, rfl, HLT, HO, HB⟩ := hrel
            have hkr : k < r.length := by have := HM.out; omega
            obtain ⟨u, hu⟩ : ∃ u, u = r[k] := ⟨_, rfl⟩
            have hcu := own_cell HO.out hkr
            rw [← hu] at hcu
            have c1 := HCX.out wr HB.out
            have hk1 : (k : Int) < (m : Int) := by omega
            have hk0 : (0 : Int) ≤ (k : Int) := by omega
            have hk2 : decide ((k : Int) < (m : Int)) = true := by simp; omega
            have hk3 : decide (k < m) = true := by simp; omega
            by_cases hux : u < x
            · have hd2 : decide (u < x) = true := by simp; omega
              have hkj : k < j := by
                rcases Nat.eq_or_lt_of_le hk with h | h
                · subst h; have := HXY.out; omega
                · exact h
              have HLT2 := Lib.hid (show ∀ e ∈ r.take (k + 1), e < x by
                rw [take_snoc r k hkr]; intro e he
                rcases List.mem_append.1 he with he | he
                · exact HLT.out e he
                · simp at he; subst he; rw [← hu]; exact hux)
              clear hu hux hkr
              go_wp2_with fail
              go_quiet (fail)
              obtain ⟨we, hwe⟩ : ∃ we, we = wr.drewN nq := ⟨_, rfl⟩
              replace HO := Lib.hid (show we.ownsRow w.heap.size 3 1 (.slice (some ⟨g, 0, none⟩) m cap) m (r.map (Value.int .i64)) by rw [hwe]; exact HO.out)
              replace HB := Lib.hid (show Below w.heap.size w we by rw [hwe]; exact below_drewN HB.out _)
              rw [← hwe]
              clear hwe hcu c1
              go_wp2_with fail
              go_roundw
              case rel => exact ⟨k + 1, by omega, by go_num, HLT2, HO, HB⟩
              case measure => simp [intOf]; omega
            · have hd2 : decide (u < x) = false := by simp; omega
              have hkm : ((k : Int) == (m : Int)) = false := by simp; omega
              have hkm2 : (k == m) = false := by simp; omega
              by_cases hue : u = x
              · have HST2 := Lib.hid (show RisSt zs (i + 1) r from HST.out.same hiz (by rw [← HX.out, ← hue, hu]; exact List.getElem_mem _))
                subst hue
                have hne : (u != u) = false := by simp
                clear hu hux hkr
                go_wp2_with fail
                go_quiet (fail)
                obtain ⟨we, hwe⟩ : ∃ we, we = wr.drewN nq := ⟨_, rfl⟩
                replace HO := Lib.hid (show we.ownsRow w.heap.size 3 1 (.slice (some ⟨g, 0, none⟩) m cap) m (r.map (Value.int .i64)) by rw [hwe]; exact HO.out)
                replace HB := Lib.hid (show Below w.heap.size w we by rw [hwe]; exact below_drewN HB.out _)
                have hcu2 : we.cell? ⟨g, k, none⟩ = some (.int .i64 u) := by rw [hwe]; exact hcu
                have c2 := HCX.out we HB.out
                rw [← hwe]
                clear hwe hcu c1
                go_wp2_with fail
                go_quiet (fail)
                obtain ⟨wf, hwf⟩ : ∃ wf, wf = we.drewN nq := ⟨_, rfl⟩
                replace HO := Lib.hid (show wf.ownsRow w.heap.size 3 1 (.slice (some ⟨g, 0, none⟩) m cap) m (r.map (Value.int .i64)) by rw [hwf]; exact HO.out)
                replace HB := Lib.hid (show Below w.heap.size w wf by rw [hwf]; exact below_drewN HB.out _)
                rw [← hwf]
                clear hwf hcu2 c2
                go_wp2_with fail
                go_roundw
                case rel => exact ⟨i + 1, r, m, by omega, by first | rfl | go_num, by omega, HM, HST2, HN, HO, HB⟩
                case measure => simp [intOf]; omega
              · have HST2 := Lib.hid (show RisSt zs (i + 1) (r.take k ++ [x] ++ r.drop k) by
                  rw [HX.out]; exact HST.out.ins hiz hkr (by rw [← HX.out]; exact HLT.out) (by rw [← HX.out, ← hu]; omega))
                have hne : (u != x) = true := by simp; omega
                have hne2 : (u == x) = false := by simp; omega
                clear hu hux hue hkr
                go_wp2_with fail
                go_quiet (fail)
                obtain ⟨we, hwe⟩ : ∃ we, we = wr.drewN nq := ⟨_, rfl⟩
                replace HO := Lib.hid (show we.ownsRow w.heap.size 3 1 (.slice (some ⟨g, 0, none⟩) m cap) m (r.map (Value.int .i64)) by rw [hwe]; exact HO.out)
                replace HB := Lib.hid (show Below w.heap.size w we by rw [hwe]; exact below_drewN HB.out _)
                have hcu2 : we.cell? ⟨g, k, none⟩ = some (.int .i64 u) := by rw [hwe]; exact hcu
                have c2 := HCX.out we HB.out
                rw [← hwe]
                clear hwe hcu c1
                go_wp2_with fail
                go_quiet (fail)
                obtain ⟨wf, hwf⟩ : ∃ wf, wf = we.drewN nq := ⟨_, rfl⟩
                replace HO := Lib.hid (show wf.ownsRow w.heap.size 3 1 (.slice (some ⟨g, 0, none⟩) m cap) m (r.map (Value.int .i64)) by rw [hwf]; exact HO.out)
                replace HB := Lib.hid (show Below w.heap.size w wf by rw [hwf]; exact below_drewN HB.out _)
                rw [← hwf]
                clear hwf hcu2 c2
                have hkc : k ≤ cap := by have := HCAP.out; omega
                have hbe : w.heap.size ≤ wf.heap.size := HB.out.size
                have hgf : g < wf.heap.size := by obtain ⟨_, _, he, _, _, h, _⟩ := own_head HO.out (by omega); cases he; exact h
                have hkc2 : ¬ k = cap := by omega
                have hkc3 : ¬ cap = k := by omega
                have hkm3 : (k : Int) ≤ (m : Int) := by omega
                have HMR := Lib.hid (show m = r.length from HM.out)
                have HCG := Lib.hid (show ∀ wx, Below wf.heap.size wf wx → ∀ j (h : j < r.length), wx.cell? ⟨g, j, none⟩ = some (.int .i64 r[j]) from fun wx h j hj => (h.cell (p := ⟨g, j, none⟩) hgf).trans (own_cell HO.out hj))
                have hown0 : (wf.alloc (.cells #[] 3)).ownsRow wf.heap.size 3 1 (.slice (some ⟨wf.heap.size, 0, none⟩) 0 0) 0 [] := own_empty (Nat.le_refl _)
                go_wp2_with (at_builtin; refine wpList_append_own _ rfl _ _ 22 rfl wf.heap.size 3 i0 (.int .i64 0) 1 8 Try.underlying22 hi0 hz0 hz1 hz2 rfl (by decide) (.slice (some ⟨wf.heap.size, 0, none⟩) 0 0) 0 [] rfl hown0 ⟨g, 0, none⟩ k cap ((r.take k).map (Value.int .i64)) rfl ?d1 ?d2 ?d3 ?d4 ?d5 ?d6 ?_)
                case d1 => rw [List.length_map, List.length_take, Nat.mul_one, Nat.min_eq_left (by have := HMR.out; omega)]
                case d2 =>
                  intro q u hu
                  have hq : q < k := by
                    rcases Nat.lt_or_ge q k with h | h
                    · exact h
                    · rw [List.getElem?_eq_none (by rw [List.length_map, List.length_take]; omega)] at hu; cases hu
                  have hq2 : q < r.length := by have := HMR.out; omega
                  rw [List.getElem?_map, List.getElem?_take_of_lt hq, List.getElem?_eq_getElem hq2] at hu
                  simp at hu; subst hu
                  have := HCG.out _ (bpush (Below.refl wf.heap.size wf) (.cells #[] 3)) q hq2
                  have hadd : (⟨g, 0, none⟩ : Addr).add q = ⟨g, q, none⟩ := by
                    unfold Addr.add; split
                    · rename_i h; subst h; rfl
                    · simp
                  rw [hadd]; exact this
                case d3 => intro u hu; obtain ⟨q, _, rfl⟩ := List.mem_map.1 hu; rfl
                case d4 => unfold maxLen; omega
                case d5 => omega
                case d6 => simp
                intro v1 w5 hown5 hgrow5 _
                have HB5 := Lib.hid (show Below wf.heap.size wf w5 from (bpush (Below.refl wf.heap.size wf) _).grown hgrow5 (by simp) (fun q hq => by cases hq; exact Nat.le_refl _))
                have HOW5 := Lib.hid (show w5.ownsRow wf.heap.size 3 1 v1 k ((r.take k).map (Value.int .i64)) by simpa using hown5)
                have c5 := HCX.out w5 (HB.out.trans (HB5.out.mono hbe))
                clear hown5 hgrow5 hown0
                have hown5 := HOW5.out
                go_wp2_with (at_builtin; refine wpList_append_own _ rfl _ _ 22 rfl wf.heap.size 3 i0 (.int .i64 0) 1 8 Try.underlying22 hi0 hz0 hz1 hz2 rfl (by decide) _ _ _ rfl (hown5.alloc _) ⟨w5.heap.size, 0, none⟩ 1 1 [.int .i64 x] rfl rfl ?c1 ?c2 ?c3 ?c4 ?c5 ?_)
                case c1 => intro j u hj; match j, hj with | 0, hj => simp at hj; subst hj; simp [Addr.add]
                case c2 => intro u hu; simp at hu; subst hu; rfl
                case c3 => unfold maxLen; omega
                case c4 => omega
                case c5 => have := HB5.out.size; simp; omega
                intro v2 w6 hown6 hgrow6 _
                have HB6 := Lib.hid (show Below wf.heap.size wf w6 from (HB5.out.alloc HB5.out.size _).grown hgrow6 (by have := HB5.out.size; simp; omega) (fun q hq => (hown5.lt q hq).1))
                have HOW6 := Lib.hid (show w6.ownsRow wf.heap.size 3 1 v2 (k + 1) ((r.take k ++ [x]).map (Value.int .i64)) by simpa using hown6)
                clear hown6 hgrow6 hown5 c5
                have hown6 := HOW6.out
                go_wp2_with (at_builtin; refine wpList_append_own _ rfl _ _ 22 rfl wf.heap.size 3 i0 (.int .i64 0) 1 8 Try.underlying22 hi0 hz0 hz1 hz2 rfl (by decide) _ _ _ rfl hown6 ⟨g, k, none⟩ (m - k) (cap - k) ((r.drop k).map (Value.int .i64)) ?d0 ?d1 ?d2 ?d3 ?d4 ?d5 ?d6 ?_)
                case d0 => first | rfl | (simp [Act.eval]; done)
                case d1 => rw [List.length_map, List.length_drop, Nat.mul_one, ← HMR.out]
                case d2 =>
                  intro q u hu
                  have hq : k + q < r.length := by
                    rcases Nat.lt_or_ge (k + q) r.length with h | h
                    · exact h
                    · rw [List.getElem?_eq_none (by rw [List.length_map, List.length_drop]; omega)] at hu; cases hu
                  rw [List.getElem?_map, List.getElem?_drop, List.getElem?_eq_getElem hq] at hu
                  simp at hu; subst hu
                  have := HCG.out _ HB6.out (k + q) hq
                  have hadd : (⟨g, k, none⟩ : Addr).add q = ⟨g, k + q, none⟩ := by
                    unfold Addr.add; split
                    · rename_i h; subst h; rfl
                    · rfl
                  rw [hadd]; exact this
                case d3 => intro u hu; obtain ⟨q, _, rfl⟩ := List.mem_map.1 hu; rfl
                case d4 => unfold maxLen; omega
                case d5 => omega
                case d6 => have := HB6.out.size; omega
                intro v3 w7 hown7 hgrow7 _
                have HB7 := Lib.hid (show Below w.heap.size w w7 from (HB.out.trans (HB6.out.mono hbe)).grown hgrow7 (Nat.le_trans HB.out.size HB6.out.size) (fun q hq => Nat.le_trans hbe (hown6.lt q hq).1))
                have hlen7 : k + 1 + (m - k) = m + 1 := by omega
                have HOW7 := Lib.hid (show w7.ownsRow w.heap.size 3 1 v3 (m + 1) ((r.take k ++ [x] ++ r.drop k).map (Value.int .i64)) by
                  rw [← hlen7]; have h := owns_lower hown7 hbe; simpa [List.map_take, List.map_drop] using h)
                have HM7 := Lib.hid (show m + 1 = (r.take k ++ [x] ++ r.drop k).length by
                  rw [List.length_append, List.length_append, List.length_take, List.length_drop, ← HMR.out, Nat.min_eq_left (by omega)]; simp; omega)
                have HN7 := Lib.hid (show r.take k ++ [x] ++ r.drop k = [] → v3 = .slice none 0 0 from fun h => by simp at h)
                clear hown7 hgrow7 hown6 hlen7
                go_wp2
                go_roundw
                case rel => exact ⟨i + 1, _, m + 1, by omega, by first | rfl | go_num, by omega, HM7, HST2, HN7, HOW7, HB7⟩
                case measure => simp [intOf]; omega
    · have HF := Lib.hid (show zs.take i = zs from List.take_of_length_le (by have := HZ.out; omega))
      have hi1 : ¬ (i : Int) < (n : Int) := by omega
      go_wp2_with fail
      go_ret
      exact ⟨r, HST.out.1, fun e => by rw [HST.out.2, HF.out], by have := HM.out; have := HZ.out; omega, ListPost.of_own HO.out HB.out⟩
end Go.Proofs.Ytohdkidfhohmlaa
