/- A schema: Right (34). -/
import Derived.Test.YtmmeekmiildliaaGreatDoorNS
import Derived.Lib.AppendZeros
import Derived.Maps.AppendAt
import Derived.Laws.AppendOwnNone
namespace Go.Proofs.YtmmeekmiildliaaGreatDoor
open Go.RowKit
set_option linter.unusedSimpArgs false
set_option linter.unusedVariables false
set_option maxRecDepth 100000 in
set_option maxHeartbeats 1000000 in
theorem grow_any (n : Nat) (w : World) (hn : n ≤ 1000) : Calls Tryz.prog 97 #[.slice none 0 0, .int .i64 n] w (GrowPost w) := by
  obtain ⟨i0, hi0, hz0, hz1, hz2⟩ := info_parts info9
  rcases Nat.eq_zero_or_pos n with h0 | h0
  · subst h0
    go_enter Tryz.func97, Tryz.ntmps97
    go_wp2_with fail
    go_ret
    exact ⟨_, rfl, World.ownsRow_nil _ _ _ _, Below.refl _ _⟩
  · have h1 : ¬ (n : Int) < 0 := by omega
    have h2 : (0 : Int) < (n : Int) := by omega
    have hr := fun ty => Lib.run_append_nil_zeros (P := Tryz.prog) w 22 3 ty 9 i0 (.string ⟨#[]⟩) .i64 .i64 Tryz.underlying22 Tryz.underlying3 hi0 hz0 n h0 (by omega) (by omega) (by rw [hz2]; omega)
    obtain ⟨g, hg⟩ : ∃ g, g = grownCap w n 0 9 := ⟨_, rfl⟩
    have hg1 : n ≤ g := hg ▸ grownCap_ge w n 0 9
    have hg2 : g ≤ maxLen := hg ▸ grownCap_le_maxLen w n 0 9 (by unfold maxLen; omega)
    obtain ⟨cs, hcs⟩ : ∃ cs, cs = Builtin.zeroCells (Value.string ⟨#[]⟩).cells n ++ Builtin.zeroCells (Value.string ⟨#[]⟩).cells (g - n) := ⟨_, rfl⟩
    have hsz : cs.size = g := by rw [hcs]; simp [Builtin.zeroCells, Value.cells]; omega
    rw [← hg, ← hcs] at hr
    have HSZ := Lib.hid hsz
    clear hg hcs hsz
    go_enter Tryz.func97, Tryz.ntmps97
    go_wp2_with (refine Lib.wpList_append_run _ rfl _ _ 22 3 rfl _ _ rfl rfl _ _ (hr _) ?_)
    go_ret
    exact ⟨_, rfl, World.ownsRow_made w cs g (Nat.le_refl _) hg2 (by rw [HSZ.out, Nat.mul_one]), below_drewN (bpush (Below.refl _ _) _) _⟩
set_option maxRecDepth 100000 in
set_option maxHeartbeats 4000000 in
theorem concat2_any (b q : Nat) (A B : Option Addr) (n c m d : Nat) (L M : List ByteArray) (w : World) (h0 : w.cell? ⟨b, 0, none⟩ = some (.slice A n c)) (h1 : w.cell? ⟨b, 1, none⟩ = some (.slice B m d))
    (hA : Row w A (texts L)) (hB : Row w B (texts M)) (hn : n = L.length) (hm : m = M.length) (hnc : n ≤ c) (hmd : m ≤ d) (ha : A = none → c = 0) (hb : B = none → d = 0) (hn2 : n ≤ 100) (hm2 : m ≤ 100) :
    Calls Tryz.prog 64 #[.slice (some ⟨b, 0, none⟩) 2 q] w (CatPost w L M) := by
  obtain ⟨i0, hi0, hz0, hz1, hz2⟩ := info_parts info9
  have HA := Lib.hid hA
  have HB := Lib.hid hB
  have HN := Lib.hid hn
  have HM := Lib.hid hm
  have Ha := Lib.hid ha
  have Hb := Lib.hid hb
  clear hA hB hn hm ha hb
  go_enter Tryz.func64, Tryz.ntmps64
  go_wp2_with fail
  go_loop [3, 5, 11] (fun s x i => ∃ k t : Nat, i = .int .i64 k ∧ s = .int .i64 t ∧ ((k = 0 ∧ t = 0) ∨ (k = 1 ∧ t = n) ∨ (k = 2 ∧ t = n + m))) (fun _ _ i => 2 - (intOf i).toNat)
  case atStart => exact ⟨0, 0, rfl, rfl, .inl ⟨rfl, rfl⟩⟩
  case round =>
    obtain ⟨k, t, rfl, rfl, hk⟩ := hrel
    rcases hk with ⟨rfl, rfl⟩ | ⟨rfl, rfl⟩ | ⟨rfl, rfl⟩
    · go_wp2_with fail
      go_round
      case rel => exact ⟨1, n, by go_num, by go_num, .inr (.inl ⟨rfl, rfl⟩)⟩
      case measure => simp [intOf]
    · go_wp2_with fail
      go_round
      case rel => exact ⟨2, t + m, by go_num, by go_num, .inr (.inr ⟨rfl, rfl⟩)⟩
      case measure => simp [intOf]
    · go_wp2_with fail
      obtain ⟨s, hs⟩ : ∃ s, s = n + m := ⟨_, rfl⟩
      have HS := Lib.hid hs
      refine (grow_any _ _ (by omega)).mono ?_
      rintro e w1 ⟨v, rfl, ho, hb1⟩
      have HO := Lib.hid ho
      have HB1 := Lib.hid hb1
      clear ho hb1
      obtain ⟨hc1, hf1⟩ := bcell HB1.out
      have g0 : w1.cell? ⟨b, 0, none⟩ = some (.slice A n c) := cell_on HB1.out h0
      have g1 : w1.cell? ⟨b, 1, none⟩ = some (.slice B m d) := cell_on HB1.out h1
      have W0 := Lib.hid h0
      have W1 := Lib.hid h1
      have HLT := Lib.hid (lt_of_cell h0)
      clear h0 h1 hc1 hf1
      go_wp2_with fail
      go_loopw [6, 8, 27] (fun v x i wr => ∃ k t : Nat, ∃ l : List ByteArray, i = .int .i64 k ∧ Hid (wr.ownsRow w.heap.size 9 1 v t (texts l)) ∧ Hid (Below w.heap.size w wr) ∧ Hid (wr.cell? ⟨b, 0, none⟩ = some (.slice A n c) ∧ wr.cell? ⟨b, 1, none⟩ = some (.slice B m d)) ∧ ((k = 0 ∧ t = 0 ∧ Hid (l = [])) ∨ (k = 1 ∧ t = n ∧ Hid (l = L)) ∨ (k = 2 ∧ t = s ∧ Hid (l = L ++ M)))) (fun _ _ i _ => 2 - (intOf i).toNat)
      case atStart => exact ⟨0, 0, [], rfl, HO, HB1, Lib.hid ⟨g0, g1⟩, .inl ⟨rfl, rfl, Lib.hid rfl⟩⟩
      case round =>
        obtain ⟨k, t, l, rfl, HO2, HBW, HG, hk⟩ := hrel
        clear g0 g1
        obtain ⟨g0, g1⟩ := HG.out
        have hlw : b < w.heap.size := HLT.out
        rcases hk with ⟨rfl, rfl, HL⟩ | ⟨rfl, rfl, HL⟩ | ⟨rfl, rfl, HL⟩
        · cases A with
          | none =>
            have e1 : c = 0 := Ha.out rfl
            have e2 : n = 0 := by omega
            have e3 : L = l := by rw [HL.out]; have := List.eq_nil_of_length_eq_zero (HN.out.symm.trans e2); simp [this]
            have E3 := Lib.hid e3
            have G : wr.cell? ⟨b, 0, none⟩ = some (.slice none 0 0) := by rw [g0, e1, e2]
            have E2 := Lib.hid e2
            clear g0 g1 e1 e2 e3
            go_wp2_with (at_builtin; refine wpList_append_own_none rfl _ _ 22 rfl w.heap.size 9 i0 1 Tryz.underlying22 hi0 _ _ _ rfl HO2.out rfl ?_)
            go_roundw
            case rel => exact ⟨1, _, l, by go_num, HO2, HBW, HG, .inr (.inl ⟨rfl, (by have := E2.out; have := HS.out; omega), Lib.hid E3.out.symm⟩)⟩
            case measure => simp [intOf]
          | some a =>
            have HR := Lib.hid ((HA.out.keep (Nat.le_refl _) HBW.out).at')
            clear g1
            go_wp2_with (at_builtin; refine wpList_append_own_at _ rfl _ _ 22 rfl w.heap.size 9 i0 (.string ⟨#[]⟩) 1 16 Tryz.underlying22 hi0 hz0 hz1 hz2 rfl (by decide) _ _ _ rfl HO2.out a n c (texts L) rfl ?c1 ?c2 ?c3 ?c4 ?c5 ?c6 ?_)
            case c1 => rw [Nat.mul_one]; simp [texts]; exact HN.out.symm
            case c2 => exact HR.out
            case c3 => exact one_texts L
            case c4 => unfold maxLen; omega
            case c5 => omega
            case c6 => exact HBW.out.size
            intro v' w3 ho' hg' _ hrow
            have HO3 := Lib.hid (show w3.ownsRow w.heap.size 9 1 v' n (texts (L)) by rw [texts_append, HL.out] at ho'; simpa using ho')
            have HBW3 := Lib.hid (HBW.out.trans (grown_below HO2.out hg' HBW.out.size))
            have HG3 := Lib.hid (show w3.cell? ⟨b, 0, none⟩ = some _ ∧ w3.cell? ⟨b, 1, none⟩ = some _ from ⟨cell_on HBW3.out W0.out, cell_on HBW3.out W1.out⟩)
            clear ho' hg' hrow
            go_wp2_with fail
            go_roundw
            case rel => exact ⟨1, n, L, by go_num, HO3, HBW3, HG3, .inr (.inl ⟨rfl, (by have := HS.out; omega), Lib.hid rfl⟩)⟩
            case measure => simp [intOf]
        · cases B with
          | none =>
            have e1 : d = 0 := Hb.out rfl
            have e2 : m = 0 := by omega
            have e3 : L ++ M = l := by rw [HL.out]; have := List.eq_nil_of_length_eq_zero (HM.out.symm.trans e2); simp [this]
            have E3 := Lib.hid e3
            have G : wr.cell? ⟨b, 1, none⟩ = some (.slice none 0 0) := by rw [g1, e1, e2]
            have E2 := Lib.hid e2
            clear g0 g1 e1 e2 e3
            go_wp2_with (at_builtin; refine wpList_append_own_none rfl _ _ 22 rfl w.heap.size 9 i0 1 Tryz.underlying22 hi0 _ _ _ rfl HO2.out rfl ?_)
            go_roundw
            case rel => exact ⟨2, _, l, by go_num, HO2, HBW, HG, .inr (.inr ⟨rfl, (by have := E2.out; have := HS.out; omega), Lib.hid E3.out.symm⟩)⟩
            case measure => simp [intOf]
          | some a =>
            have HR := Lib.hid ((HB.out.keep (Nat.le_refl _) HBW.out).at')
            clear g0
            go_wp2_with (at_builtin; refine wpList_append_own_at _ rfl _ _ 22 rfl w.heap.size 9 i0 (.string ⟨#[]⟩) 1 16 Tryz.underlying22 hi0 hz0 hz1 hz2 rfl (by decide) _ _ _ rfl HO2.out a m d (texts M) rfl ?c1 ?c2 ?c3 ?c4 ?c5 ?c6 ?_)
            case c1 => rw [Nat.mul_one]; simp [texts]; exact HM.out.symm
            case c2 => exact HR.out
            case c3 => exact one_texts M
            case c4 => unfold maxLen; omega
            case c5 => omega
            case c6 => exact HBW.out.size
            intro v' w3 ho' hg' _ hrow
            have HO3 := Lib.hid (show w3.ownsRow w.heap.size 9 1 v' (t + m) (texts (L ++ M)) by rw [texts_append, HL.out] at ho'; exact ho')
            have HBW3 := Lib.hid (HBW.out.trans (grown_below HO2.out hg' HBW.out.size))
            have HG3 := Lib.hid (show w3.cell? ⟨b, 0, none⟩ = some _ ∧ w3.cell? ⟨b, 1, none⟩ = some _ from ⟨cell_on HBW3.out W0.out, cell_on HBW3.out W1.out⟩)
            clear ho' hg' hrow
            go_wp2_with fail
            go_roundw
            case rel => exact ⟨2, t + m, L ++ M, by go_num, HO3, HBW3, HG3, .inr (.inr ⟨rfl, (by have := HS.out; omega), Lib.hid rfl⟩)⟩
            case measure => simp [intOf]
        · go_wp2_with fail
          go_ret
          exact ⟨_, rfl, by rw [← HN.out, ← HM.out, ← HS.out, ← HL.out]; exact HO2.out, HBW.out⟩
set_option maxRecDepth 100000 in
set_option maxHeartbeats 2000000 in
theorem sright_any (A B : Option Addr) (n c m d : Nat) (L M : List ByteArray) (w : World) (hA : Row w A (texts L)) (hB : Row w B (texts M)) (hn : n = L.length) (hm : m = M.length) (hnc : n ≤ c) (hmd : m ≤ d) (ha : A = none → c = 0) (hb : B = none → d = 0)
    (hL : ∀ s ∈ L, s.size ≤ 9223372036854775807) (hM : ∀ s ∈ M, s.size ≤ 9223372036854775807) (hn2 : n ≤ 9223372036854775807) (hm2 : m ≤ 9223372036854775807) (r : Bool) (hr : r = true ↔ rightP L M) :
    Calls Tryz.prog 34 #[.agg #[.slice A n c, .slice B m d]] w fun e w' => e = .returned (.bool r) ∧ Below w.heap.size w w' := by
  have HA := Lib.hid hA
  have HB := Lib.hid hB
  have HN := Lib.hid hn
  have HM := Lib.hid hm
  have Ha := Lib.hid ha
  have Hb := Lib.hid hb
  have HR := Lib.hid hr
  have HL := Lib.hid hL
  have HLM := Lib.hid hM
  clear hA hB hn hm ha hb hr hL hM
  by_cases h1 : n < 1
  · have d1 : decide ((n : Int) < 1) = true := by simp; omega
    obtain rfl : r = false := by
      cases r with
      | false => rfl
      | true => have := (HR.out.1 rfl).1; have := HN.out; omega
    clear h1
    go_enter Tryz.func34, Tryz.ntmps34
    go_wp2_with fail
    go_ret
    exact ⟨rfl, bpush (Below.refl _ _) _⟩
  have d1 : decide ((n : Int) < 1) = false := by simp; omega
  by_cases h2 : 6 < n
  · have d2 : decide (6 < (n : Int)) = true := by simp; omega
    obtain rfl : r = false := by
      cases r with
      | false => rfl
      | true => have := (HR.out.1 rfl).2.1; have := HN.out; omega
    clear h1 h2
    go_enter Tryz.func34, Tryz.ntmps34
    go_wp2_with fail
    go_ret
    exact ⟨rfl, bpush (Below.refl _ _) _⟩
  have d2 : decide (6 < (n : Int)) = false := by simp; omega
  by_cases h3 : 4 < m
  · have d3 : decide (4 < (m : Int)) = true := by simp; omega
    obtain rfl : r = false := by
      cases r with
      | false => rfl
      | true => have := (HR.out.1 rfl).2.2.1; have := HM.out; omega
    clear h1 h2 h3
    go_enter Tryz.func34, Tryz.ntmps34
    go_wp2_with fail
    go_ret
    exact ⟨rfl, bpush (Below.refl _ _) _⟩
  have d3 : decide (4 < (m : Int)) = false := by simp; omega
  have HP := Lib.hid (show r = true ↔ namesP (L ++ M) from ⟨fun h => (HR.out.1 h).2.2.2, fun h => HR.out.2 ⟨by have := HN.out; omega, by have := HN.out; omega, by have := HM.out; omega, h⟩⟩)
  have h2' : n ≤ 6 := by omega
  have h3' : m ≤ 4 := by omega
  clear h1 h2 h3
  obtain ⟨W1, hW1⟩ : ∃ W1, W1 = (w.alloc (.cells #[.slice A n c, .slice B m d] 24)).alloc (.cells #[.slice A n c, .slice B m d] 22) := ⟨_, rfl⟩
  have hbw : Below w.heap.size w W1 := by rw [hW1]; exact bthen (bpush (Below.refl _ _) _) (bpush (Below.refl _ _) _)
  have c0 : W1.cell? ⟨w.heap.size + 1, 0, none⟩ = some (.slice A n c) := by rw [hW1]; simp
  have c1 : W1.cell? ⟨w.heap.size + 1, 1, none⟩ = some (.slice B m d) := by rw [hW1]; simp
  have HW := Lib.hid hW1
  have HBW := Lib.hid hbw
  have C0 := Lib.hid c0
  have C1 := Lib.hid c1
  clear hW1 hbw c0 c1
  go_enter Tryz.func34, Tryz.ntmps34
  go_wp2_with fail
  rw [← HW.out]
  refine (concat2_any _ _ A B n c m d L M _ C0.out C1.out (HA.out.keep (Nat.le_refl _) HBW.out) (HB.out.keep (Nat.le_refl _) HBW.out) HN.out HM.out hnc hmd Ha.out Hb.out (by omega) (by omega)).mono ?_
  rintro e w2 ⟨v, rfl, ho, hb2⟩
  obtain ⟨A3, c3, rfl, hr3, hc3, _⟩ := own_slice ho
  have HR3 := Lib.hid hr3
  have HB2 := Lib.hid (bthen HBW.out hb2)
  obtain ⟨k, hk⟩ : ∃ k, k = L.length + M.length := ⟨_, rfl⟩
  rw [← hk] at hc3 ⊢
  have HK := Lib.hid hk
  have hk2 : k ≤ 10 := by have := HN.out; have := HM.out; omega
  clear ho hb2 hr3 hk
  go_wp2_with fail
  refine (names_any A3 k c3 (L ++ M) _ HR3.out (by rw [List.length_append]; exact HK.out) hc3 (by omega) (fun s hs => (List.mem_append.1 hs).elim (HL.out s) (HLM.out s)) r HP.out).mono ?_
  rintro e w3 ⟨rfl, hb3⟩
  go_wp2_with fail
  go_ret
  exact ⟨rfl, bthen HB2.out hb3⟩
end Go.Proofs.YtmmeekmiildliaaGreatDoor
