/- The document's block. -/
import Derived.Test.YthogafecplhckaaDoorCD
import Derived.Test.YthogafecplhckaaDoorZA
import Derived.Test.YthogafecplhckaaDoorGT
namespace Go.Proofs.YthogafecplhckaaDoor
open Go.RowKit
set_option linter.unusedSimpArgs false
set_option linter.unusedVariables false
set_option maxRecDepth 100000 in
set_option maxHeartbeats 4000000 in
theorem rblock_any (A : Option Addr) (n c : Nat) (bs : List Int) (w : World) (hA : Row w A (bs.map (Value.int .u8))) (hz : n = bs.length) (hn : n ≤ 1000000) (hb : bytes bs) (hnone : A = none → n = 0 ∧ c = 0) :
    Calls Tryd.prog 33 #[.slice A n c] w (BlockPost w (blockL bs)) := by
  obtain ⟨i0, hi0, hz0, hz1, hz2⟩ := info_parts Tryd.info5
  have HZ := Lib.hid hz
  have HA := Lib.hid hA
  have HBY := Lib.hid hb
  have HN := Lib.hid hnone
  clear hz hA hb hnone
  obtain ⟨E, hE⟩ : ∃ E, E = encV (n : Int) := ⟨_, rfl⟩
  have hEl : 1 ≤ E.length ∧ E.length ≤ 10 := by rw [hE]; exact enc_bd _
  obtain ⟨hE1, hE2⟩ := hEl
  have HE := Lib.hid hE
  clear hE
  go_enter Tryd.func33, Tryd.ntmps33
  go_wp2_with fail
  refine (refint_any (n : Int) _ (by omega) (by omega)).mono ?_
  rw [← HE.out]
  rintro e w1 ⟨g, cap, rfl, hcap, hown1, hB1⟩
  have HB1 := Lib.hid hB1
  have HOW1 := Lib.hid hown1
  obtain ⟨l, hl⟩ : ∃ l, l = E.length := ⟨_, rfl⟩
  rw [← hl] at hE1 hE2 hcap ⊢
  have hown2 : w1.ownsRow w.heap.size 5 1 (.slice (some ⟨g, 0, none⟩) l cap) l (E.map (Value.int .u8)) := by rw [hl]; exact hown1
  have HL := Lib.hid hl
  clear hB1 hown1 hl
  go_wp2_with (at_builtin; refine append_bytes rfl _ _ rfl w.heap.size (.slice (some ⟨g, 0, none⟩) l cap) rfl l E hown2 A n c bs rfl (HA.out.keep (Nat.le_refl _) HB1.out) HZ.out HN.out (by omega) HB1.out.size ?_)
  intro v2 w2 hown3 hB2
  rw [← List.map_append] at hown3
  obtain ⟨A2, c2, rfl, hr2, hc2, hn2⟩ := bytes_slice hown3
  obtain ⟨body, hbody⟩ : ∃ body, body = E ++ bs := ⟨_, rfl⟩
  rw [← hbody] at hown3 hr2
  obtain ⟨m, hm⟩ : ∃ m, m = l + n := ⟨_, rfl⟩
  rw [← hm] at hown3 hc2 hn2 ⊢
  have HM := Lib.hid (show m = body.length by rw [hm, hbody, List.length_append, ← HL.out, ← HZ.out])
  have hm9 : m ≤ 16777226 := by omega
  have HBODY := Lib.hid (show body = headL bs by rw [hbody, HE.out, HZ.out]; rfl)
  have HOW2 := Lib.hid hown3
  have HR2 := Lib.hid hr2
  have HB2 := Lib.hid (HB1.out.trans hB2)
  clear hbody hm hown3 hr2 hB2 hown2 HOW1
  go_wp2_with fail
  refine (rsum_any A2 m c2 body _ HR2.out HM.out (by omega) (by rw [HBODY.out]; exact head_bytes HBY.out)).mono ?_
  rintro e w3 ⟨rfl, rfl⟩
  obtain ⟨s, hs⟩ : ∃ s, s = sumN body := ⟨_, rfl⟩
  rw [show sumI body = (s : Int) by rw [hs]; rfl]
  have hs9 : s < 4294967296 := by rw [hs]; unfold sumN; omega
  have HS := Lib.hid hs
  clear hs
  obtain ⟨y0, hy0⟩ : ∃ y : Nat, y = s / 16777216 % 256 := ⟨_, rfl⟩
  obtain ⟨y1, hy1⟩ : ∃ y : Nat, y = s / 65536 % 256 := ⟨_, rfl⟩
  obtain ⟨y2, hy2⟩ : ∃ y : Nat, y = s / 256 % 256 := ⟨_, rfl⟩
  obtain ⟨y3, hy3⟩ : ∃ y : Nat, y = s / 1 % 256 := ⟨_, rfl⟩
  have hy09 : y0 < 256 := by omega
  have hy19 : y1 < 256 := by omega
  have hy29 : y2 < 256 := by omega
  have hy39 : y3 < 256 := by omega
  have e0 : (s : Int) / 16777216 = (y0 : Int) := by omega
  have e1 : (s : Int) / 65536 % 256 = (y1 : Int) := by omega
  have e2 : (s : Int) / 256 % 256 = (y2 : Int) := by omega
  have e3 : (s : Int) % 256 = (y3 : Int) := by omega
  have HSB := Lib.hid (show sumB s = [(y0 : Int), (y1 : Int), (y2 : Int), (y3 : Int)] by rw [hy0, hy1, hy2, hy3]; rfl)
  clear hy0 hy1 hy2 hy3
  have hown := HOW2.out
  go_wp2_with (at_builtin; refine wpList_append_own _ rfl _ _ 25 rfl w.heap.size 5 i0 (.int .u8 0) 1 1 Tryd.underlying25 hi0 hz0 hz1 hz2 rfl (by decide) _ _ _ rfl (hown.alloc _) ⟨w2.heap.size, 0, none⟩ 4 4 [.int .u8 (y0 : Int), .int .u8 (y1 : Int), .int .u8 (y2 : Int), .int .u8 (y3 : Int)] rfl rfl ?c1 ?c2 ?c3 ?c4 ?c5 ?_)
  case c1 => intro j u hj; match j, hj with
             | 0, hj => simp at hj; subst hj; simp [Addr.add]
             | 1, hj => simp at hj; subst hj; simp [Addr.add]
             | 2, hj => simp at hj; subst hj; simp [Addr.add]
             | 3, hj => simp at hj; subst hj; simp [Addr.add]
  case c2 => intro u hu; simp at hu; rcases hu with rfl | rfl | rfl | rfl <;> rfl
  case c3 => unfold maxLen; omega
  case c4 => omega
  case c5 => have := HB2.out.size; simp; omega
  intro v' w3 hown' hgrow _
  have HB3 := Lib.hid (show Below w.heap.size w w3 from (bpush HB2.out _).grown hgrow (by have := HB2.out.size; simp; omega) (fun k hk => (hown.lt k hk).1))
  have HO3 := Lib.hid (show w3.ownsRow w.heap.size 5 1 v' (m + 4) ((blockL bs).map (Value.int .u8)) by
    rw [blockL, ← HBODY.out, ← HS.out, HSB.out, List.map_append]; simpa using hown')
  clear hown' hgrow hown
  go_wp2
  go_ret2
  obtain ⟨A4, c4, rfl, hr4, hc4, _⟩ := bytes_slice HO3.out
  have hlen : m + 4 = (blockL bs).length := by rw [blockL, ← HBODY.out, List.length_append, ← HM.out]; rfl
  rw [hlen] at hc4
  exact ⟨A4, c4, by rw [← hlen]; rfl, hr4, hc4, HB3.out, by rw [← hlen]; exact HO3.out⟩
theorem Bx.of_cells {w : World} {mb : Nat} {V : Value} (h : w.heap[mb]? = some (.cells #[V, .int .i64 0, .bool false] 104)) (hz : ∀ o, w.frozen? ⟨mb, o, none⟩ = false) : Bx w mb V 0 false := by
  refine ⟨by simp [World.cell?, h], by simp [World.cell?, h], by simp [World.cell?, h], fun o => ⟨hz o, fun ho => ?_⟩⟩
  simp [World.cell?, h]
  omega
theorem num_take : ∀ (m i u : Nat) (bs : List Int), bytes bs → i + m = 10 → ((i = 0 ∧ u = 0) ∨ (0 < i ∧ 128 ^ (i - 1) ≤ u)) → numAux i u (bs.take m) = numAux i u bs := by
  intro m
  induction m with
  | zero =>
    intro i u bs hb hi hu
    obtain rfl : i = 10 := by omega
    have h9 : 144115188075855871 < u := by
      rcases hu with h | h
      · omega
      · have h2 : (128 : Nat) ^ (10 - 1) ≤ u := h.2
        have h3 : (128 : Nat) ^ (10 - 1) = 9223372036854775808 := by decide
        omega
    cases bs with
    | nil => rfl
    | cons c cs => rw [num_stop (.inr h9)]; rfl
  | succ m ih =>
    intro i u bs hb hi hu
    cases bs with
    | nil => rfl
    | cons c cs =>
      rw [List.take_succ_cons]
      obtain ⟨c0, c1⟩ := hb c (by simp)
      by_cases hst : (i = 0 ∧ c = 128) ∨ 144115188075855871 < u
      · rw [num_stop hst, num_stop hst]
      · by_cases hc : c < 128
        · rw [num_end hst hc, num_end hst hc]
        · rw [num_go hst hc, num_go hst hc]
          refine ih _ _ _ (fun x hx => hb x (by simp [hx])) (by omega) (.inr ⟨by omega, ?_⟩)
          rcases hu with ⟨rfl, rfl⟩ | ⟨h0, h1⟩
          · simp; omega
          · obtain ⟨j, rfl⟩ : ∃ j, i = j + 1 := ⟨i - 1, by omega⟩
            simp only [Nat.add_sub_cancel] at h1 ⊢
            rw [Nat.pow_succ]; omega
theorem numP_take {bs : List Int} (hb : bytes bs) : numP (bs.take 10) = numP bs := by
  unfold numP
  rw [num_take 10 0 0 bs hb rfl (.inl ⟨rfl, rfl⟩)]
end Go.Proofs.YthogafecplhckaaDoor
