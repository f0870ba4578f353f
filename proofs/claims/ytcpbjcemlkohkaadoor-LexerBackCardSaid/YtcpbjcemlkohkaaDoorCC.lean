/- The text of tokens, on both sides. -/
import Derived.Test.YtcpbjcemlkohkaaDoorBB
namespace Go.Proofs.YtcpbjcemlkohkaaDoor
open Go.RowKit
set_option linter.unusedSimpArgs false
set_option linter.unusedVariables false
def textT (t : Tok) : List UInt8 := if t.1 = 2 then 34 :: (dat t.2.1 ++ [34]) else dat t.2.1
def textL (L : List Tok) : List UInt8 := Lib.join (L.map textT) [32]
theorem info9 : (Tryd.prog.info? 9).map (fun i => (i.zero, i.size, i.bytes)) = some (some (.string ⟨#[]⟩), 1, 16) := by kernel_rfl
theorem own_slice {B : Nat} {w : World} {e : TypeId} {v : Value} {n : Nat} {xs : List Value} (h : w.ownsRow B e 1 v n xs) : ∃ A c, v = .slice A n c ∧ Row w A xs ∧ n ≤ c ∧ (A = none → c = 0) := by
  have hn : n = xs.length := by have := h.1; simpa using this.symm
  rcases h.2 with ⟨rfl, h0⟩ | ⟨g, cap, cur, rfl, _, _, hc, _⟩
  · have hz0 : xs = [] := List.length_eq_zero_iff.1 (by omega)
    exact ⟨none, 0, by rw [h0], .inl hz0, by omega, fun _ => rfl⟩
  · rcases Nat.eq_zero_or_pos n with h0 | h0
    · have hz0 : xs = [] := List.length_eq_zero_iff.1 (by omega)
      exact ⟨_, cap, rfl, .inl hz0, hc, fun h => by cases h⟩
    · obtain ⟨g', cap', e', hc', hr⟩ := Row.of_own h h0
      cases e'
      exact ⟨_, _, rfl, hr, hc', fun h => by cases h⟩
theorem grown_own1 {w w' : World} {B : Nat} {v : Value} {n : Nat} {xs : List Value} {e : TypeId} (hown : w.ownsRow B e 1 v n xs) (hg : w.grownBy w' v.ownBlock) (h : B ≤ w.heap.size) : Below B w w' :=
  ⟨hg.os, hg.tape, hg.output, hg.size, fun i hi => hg.block i (by omega) (by
    rcases hown.2 with ⟨rfl, _⟩ | ⟨g, cap, cur, rfl, hb, _⟩
    · simp [Value.ownBlock]
    · simp [Value.ownBlock]; omega)⟩
theorem dat_append (a b : ByteArray) : dat (a ++ b) = dat a ++ dat b := by simp [dat, ByteArray.data_append]
theorem join_snoc (xs : List (List UInt8)) (x sep : List UInt8) (h : xs ≠ []) : Lib.join (xs ++ [x]) sep = Lib.join xs sep ++ sep ++ x := by
  unfold Lib.join
  induction xs with
  | nil => exact absurd rfl h
  | cons a r ih =>
    cases r with
    | nil => simp [List.intercalate, List.intersperse]
    | cons b r =>
      have := ih (by simp)
      simp only [List.intercalate, List.cons_append, List.intersperse_cons_cons, List.flatten_cons] at this ⊢
      rw [this]; simp
theorem textL_snoc (L : List Tok) (t : Tok) : textL (L ++ [t]) = if L = [] then textT t else textL L ++ [32] ++ textT t := by
  unfold textL
  rw [List.map_append]
  split
  · rename_i h; subst h; exact Lib.join_one _ _
  · rename_i h; exact join_snoc _ _ _ (by simpa using h)
theorem textT_len (t : Tok) : (textT t).length ≤ t.2.1.size + 2 := by
  unfold textT; split
  · simp [dat_len]
  · rw [dat_len]; omega
def smallT (L : List Tok) : Prop := ∀ t ∈ L, t.2.1.size ≤ 1000
theorem textL_len (L : List Tok) (h : smallT L) : ∀ k, k ≤ L.length → (textL (L.take k)).length ≤ k * 1003 := by
  intro k
  induction k with
  | zero => intro _; rw [List.take_zero]; exact Nat.le_refl _
  | succ k ih =>
    intro hk
    have h1 := ih (by omega)
    have h2 := h L[k] (List.getElem_mem _)
    have h3 := textT_len L[k]
    rw [take_snoc L k (by omega), textL_snoc]
    split
    · omega
    · simp only [List.length_append, List.length_cons, List.length_nil]; omega
set_option maxRecDepth 100000 in
set_option maxHeartbeats 16000000 in
theorem reftext_any (A : Option Addr) (n c : Nat) (L : List Tok) (w : World) (hA : Row w A (cellsT L)) (hn : n = L.length) (hn2 : n ≤ 1000) (hs : smallT L) :
    Calls Tryd.prog 14 #[.slice A n c] w fun e w' => e = .returned (.string (bsOf (textL L))) ∧ Below w.heap.size w w' := by
  have HA := Lib.hid hA
  have HN := Lib.hid hn
  have HS := Lib.hid hs
  clear hA hn hs
  go_enter Tryd.func14, Tryd.ntmps14
  go_wp2_with fail
  go_loopw [3, 4] (fun x i wr => ∃ (k : Nat) (q : ByteArray), i = .int .i64 (k : Int) ∧ k ≤ n ∧ x = .string q ∧ Hid (dat q = textL (L.take k)) ∧ Hid (Below w.heap.size w wr)) (fun _ i _ => n - (intOf i).toNat)
  case atStart => exact ⟨0, ⟨#[]⟩, rfl, by omega, rfl, Lib.hid rfl, Lib.hid (Below.refl _ _)⟩
  case round =>
    obtain ⟨k, q, rfl, hk, rfl, HQ, HBW⟩ := hrel
    by_cases hlt : k < n
    case neg =>
      have hki : ¬ (k : Int) < (n : Int) := by omega
      have HX := Lib.hid (show q = bsOf (textL L) by apply dat_inj; rw [dat_bs, HQ.out, List.take_of_length_le (by have := HN.out; omega)])
      clear hlt
      go_wp2_with fail
      go_ret
      exact ⟨by rw [HX.out]; rfl, HBW.out⟩
    case pos =>
    have hki : (k : Int) < (n : Int) := by omega
    have hk0 : (0 : Int) ≤ (k : Int) := by omega
    have hkL : k < L.length := by have := HN.out; omega
    obtain ⟨b1, o1, rfl, x0, x1, x2⟩ := (HA.out.keep (Nat.le_refl _) HBW.out).at3 hkL
    obtain ⟨⟨t0, t1, t2⟩, ht⟩ : ∃ t, t = L[k] := ⟨_, rfl⟩
    rw [← ht] at x0 x1 x2
    have hsz : t1.size ≤ 1000 := by have h := HS.out L[k] (List.getElem_mem _); rw [← ht] at h; exact h
    have hqs : q.size ≤ k * 1003 := by rw [← dat_len, HQ.out]; exact textL_len L HS.out k (by omega)
    obtain ⟨zq, hzq⟩ : ∃ z, q.size = z := ⟨_, rfl⟩
    have HT := Lib.hid (show L.take (k + 1) = L.take k ++ [(t0, t1, t2)] by rw [take_snoc L k hkL, ht])
    have hzq9 : zq ≤ 1003000 := by omega
    obtain ⟨z1, hz1⟩ : ∃ z, t1.size = z := ⟨_, rfl⟩
    have hz19 : z1 ≤ 1000 := by omega
    clear ht hlt hqs hsz
    by_cases h0 : 0 < k
    · have d0 : decide ((0 : Int) < (k : Int)) = true := by simp; omega
      have dn0 : decide (0 < k) = true := by simp; omega
      have HNE := Lib.hid (show L.take k ≠ [] from fun e => by have h := congrArg List.length e; rw [List.length_take, Nat.min_eq_left (by omega)] at h; have h3 : k = 0 := h; omega)
      clear h0
      by_cases h2 : t0 = 2
      · have q2 : (t0 == 2) = true := beq_iff_eq.2 h2
        have HX := Lib.hid (show ∀ u : ByteArray, dat u = dat q ++ [32] ++ [34] ++ dat t1 ++ [34] → dat u = textL (L.take (k + 1)) from fun u hu => by
          rw [HT.out, textL_snoc, if_neg HNE.out, hu, HQ.out]; unfold textT; rw [if_pos h2]; simp)
        clear h2
        go_wp2_with fail
        go_roundw
        case rel => exact ⟨k + 1, _, by go_num, by omega, rfl, Lib.hid (HX.out _ (by simp only [dat_append]; rfl)), HBW⟩
        case measure => simp [intOf]; omega
      · have q2 : (t0 == 2) = false := beq_eq_false_iff_ne.2 h2
        have HX := Lib.hid (show ∀ u : ByteArray, dat u = dat q ++ [32] ++ dat t1 → dat u = textL (L.take (k + 1)) from fun u hu => by
          rw [HT.out, textL_snoc, if_neg HNE.out, hu, HQ.out]; unfold textT; rw [if_neg h2])
        clear h2
        go_wp2_with fail
        go_roundw
        case rel => exact ⟨k + 1, _, by go_num, by omega, rfl, Lib.hid (HX.out _ (by simp only [dat_append]; rfl)), HBW⟩
        case measure => simp [intOf]; omega
    · have d0 : decide ((0 : Int) < (k : Int)) = false := by simp; omega
      have dn0 : decide (0 < k) = false := by simp; omega
      have HNE := Lib.hid (show L.take k = [] by rw [show k = 0 by omega]; rfl)
      have HQ0 := Lib.hid (show dat q = [] by rw [HQ.out, HNE.out]; rfl)
      clear h0
      by_cases h2 : t0 = 2
      · have q2 : (t0 == 2) = true := beq_iff_eq.2 h2
        have HX := Lib.hid (show ∀ u : ByteArray, dat u = dat q ++ [34] ++ dat t1 ++ [34] → dat u = textL (L.take (k + 1)) from fun u hu => by
          rw [HT.out, textL_snoc, if_pos HNE.out, hu, HQ0.out]; unfold textT; rw [if_pos h2]; simp)
        clear h2
        go_wp2_with fail
        go_roundw
        case rel => exact ⟨k + 1, _, by go_num, by omega, rfl, Lib.hid (HX.out _ (by simp only [dat_append]; rfl)), HBW⟩
        case measure => simp [intOf]; omega
      · have q2 : (t0 == 2) = false := beq_eq_false_iff_ne.2 h2
        have HX := Lib.hid (show ∀ u : ByteArray, dat u = dat q ++ dat t1 → dat u = textL (L.take (k + 1)) from fun u hu => by
          rw [HT.out, textL_snoc, if_pos HNE.out, hu, HQ0.out]; unfold textT; rw [if_neg h2]; simp)
        clear h2
        go_wp2_with fail
        go_roundw
        case rel => exact ⟨k + 1, _, by go_num, by omega, rfl, Lib.hid (HX.out _ (by simp only [dat_append])), HBW⟩
        case measure => simp [intOf]; omega
set_option maxRecDepth 100000 in
set_option maxHeartbeats 16000000 in
theorem text_laws (A : Option Addr) (n c : Nat) (L : List Tok) (w : World) (hA : Row w A (cellsT L)) (hn : n = L.length) (hn2 : n ≤ 1000) (hs : smallT L) :
    Calls Tryd.prog 13 #[.slice A n c] w fun e w' => e = .returned (.string (bsOf (textL L))) ∧ Below w.heap.size w w' := by
  obtain ⟨i0, hi0, hz0, hz1, hz2⟩ := info_parts info9
  have HA := Lib.hid hA
  have HN := Lib.hid hn
  have HS := Lib.hid hs
  clear hA hn hs
  go_enter Tryd.func13, Tryd.ntmps13
  go_wp2_with fail
  go_loopw [3, 5, 8] (fun v q i wr => ∃ (k : Nat) (P : List ByteArray), i = .int .i64 (k : Int) ∧ k ≤ n ∧ Hid (wr.ownsRow w.heap.size 9 1 v k (texts P)) ∧ Hid (P.length = k) ∧ Hid (P.map dat = (L.take k).map textT) ∧ Hid (Below w.heap.size w wr)) (fun _ _ i _ => n - (intOf i).toNat)
  case atStart => exact ⟨0, [], rfl, by omega, Lib.hid (World.ownsRow_nil _ _ _ _), Lib.hid rfl, Lib.hid rfl, Lib.hid (Below.refl _ _)⟩
  case round =>
    obtain ⟨k, P, rfl, hk, HO, HPL, HPM, HBW⟩ := hrel
    have hszr : w.heap.size ≤ wr.heap.size := HBW.out.size
    by_cases hlt : k < n
    case neg =>
      have hki : ¬ (k : Int) < (n : Int) := by omega
      have HX := Lib.hid (show (Lib.join (P.map (·.data.toList)) [32]) = textL L by
        have h := HPM.out
        rw [List.take_of_length_le (by have := HN.out; omega)] at h
        unfold textL; rw [← h]; rfl)
      have HXL := Lib.hid (show (textL L).length ≤ 1003000 by
        have h := textL_len L HS.out L.length (Nat.le_refl _)
        rw [List.take_length] at h; have := HN.out; omega)
      obtain ⟨A9, c9, rfl, h1, h2, h3⟩ := own_slice HO.out
      have HR9 := Lib.hid h1
      have HH3 := Lib.hid h3
      clear hlt h1 h3
      by_cases hk0 : k = 0
      · subst hk0
        have HNIL := Lib.hid (show textL L = [] by
          have h : L = [] := List.eq_nil_of_length_eq_zero (by have := HN.out; omega)
          rw [h]; rfl)
        go_wp2_with fail
        refine (show Calls Tryd.prog 22 #[.slice A9 0 c9, .string ⟨#[32]⟩] _ _ from Any.strings_Join_none Tryd.lays156 Tryd.Builder_Extra_156 A9 c9 ⟨#[32]⟩ _).mono ?_
        rintro e w1 ⟨rfl, rfl⟩
        go_wp2_with fail
        go_ret
        exact ⟨by rw [HNIL.out]; rfl, HBW.out⟩
      · obtain ⟨b9, o9, hA9, -⟩ := text_cell HR9.out (i := 0) (by have := HPL.out; omega)
        subst hA9
        have HCC := Lib.hid (show ∀ (j : Nat) x, P[j]? = some x → wr.cell? ⟨b9, o9 + j, none⟩ = some (.string x) from fun j x hx => by
          obtain ⟨hj, rfl⟩ := List.getElem?_eq_some_iff.1 hx
          obtain ⟨b', o', e, hc⟩ := text_cell HR9.out hj
          cases e; exact hc)
        have HPL2 := Lib.hid HPL.out.symm
        have HP0 := Lib.hid (show 0 < P.length by have := HPL.out; omega)
        have hblt : b9 < wr.heap.size := lt_of_cell (HCC.out 0 (P[0]'HP0.out) (List.getElem?_eq_getElem HP0.out))
        clear hk0
        go_wp2_with fail
        rw [HPL2.out]
        refine (Tryd.strings_Join b9 o9 c9 P ⟨#[32]⟩ _ HCC.out hblt (by have := HPL2.out; omega) (by have := HPL2.out; omega) (by have h := HXL.out; rw [← HX.out] at h; exact Nat.le_trans h (by decide))).mono ?_
        rintro e w1 ⟨rfl, hb⟩
        have HB1 := Lib.hid (bthen HBW.out hb)
        have HXX := Lib.hid (show (⟨(Lib.join (P.map (·.data.toList)) [32]).toArray⟩ : ByteArray) = bsOf (textL L) by rw [HX.out]; rfl)
        clear hb
        go_wp2_with fail
        go_ret
        exact ⟨congrArg (fun x => Ending.returned (.string x)) HXX.out, HB1.out⟩
    case pos =>
    have hki : (k : Int) < (n : Int) := by omega
    have hk0 : (0 : Int) ≤ (k : Int) := by omega
    have hkL : k < L.length := by have := HN.out; omega
    obtain ⟨b1, o1, rfl, x0, x1, x2⟩ := (HA.out.keep (Nat.le_refl _) HBW.out).at3 hkL
    obtain ⟨⟨t0, t1, t2⟩, ht⟩ : ∃ t, t = L[k] := ⟨_, rfl⟩
    rw [← ht] at x0 x1 x2
    have hsz : t1.size ≤ 1000 := by have h := HS.out L[k] (List.getElem_mem _); rw [← ht] at h; exact h
    have HT := Lib.hid (show L.take (k + 1) = L.take k ++ [(t0, t1, t2)] by rw [take_snoc L k hkL, ht])
    obtain ⟨z1, hzt⟩ : ∃ z, t1.size = z := ⟨_, rfl⟩
    have hz19 : z1 ≤ 1000 := by omega
    clear ht hlt hsz
    by_cases h2 : t0 = 2
    · have q2 : (t0 == 2) = true := beq_iff_eq.2 h2
      have HX := Lib.hid (show ∀ u : ByteArray, dat u = [34] ++ dat t1 ++ [34] → (P ++ [u]).map dat = (L.take (k + 1)).map textT from fun u hu => by
        rw [HT.out, List.map_append, List.map_append, HPM.out, List.map_cons, List.map_cons, hu]
        unfold textT; rw [if_pos h2]; simp)
      clear h2
      go_wp2_with (at_builtin; refine wpList_append_own _ rfl _ _ 44 rfl w.heap.size 9 i0 (.string ⟨#[]⟩) 1 16 Tryd.underlying44 hi0 hz0 hz1 hz2 rfl (by decide) _ _ _ rfl ((HO.out.alloc _).alloc _) ⟨wr.heap.size + 1, 0, none⟩ 1 1 [.string (⟨#[34]⟩ ++ t1 ++ ⟨#[34]⟩)] rfl rfl ?c1p ?c2p ?c3p ?c4p ?c5p ?_)
      case c2p => rfl
      case c3p => unfold maxLen; omega
      case c4p => omega
      case c5p => omega
      intro v5 w5 ho5 hg5 _
      have hb5 : Below w.heap.size wr w5 := (((Below.refl _ wr).alloc hszr _).alloc (by simp; omega) _).trans (grown_own1 ((HO.out.alloc _).alloc _) hg5 (by simp; omega))
      have HO5 := Lib.hid (show w5.ownsRow w.heap.size 9 1 v5 (k + 1) (texts (P ++ [(⟨#[34]⟩ ++ t1 ++ ⟨#[34]⟩)])) by simpa [texts] using ho5)
      have HB5 := Lib.hid (HBW.out.trans hb5)
      clear ho5 hg5 hb5
      go_wp2_with fail
      go_roundw
      case rel => exact ⟨k + 1, P ++ [(⟨#[34]⟩ ++ t1 ++ ⟨#[34]⟩)], by go_num, by omega, HO5, Lib.hid (by rw [List.length_append, HPL.out]; rfl), Lib.hid (HX.out _ (by simp only [dat_append]; rfl)), HB5⟩
      case measure => simp [intOf]; omega
    · have q2 : (t0 == 2) = false := beq_eq_false_iff_ne.2 h2
      have HX := Lib.hid (show (P ++ [t1]).map dat = (L.take (k + 1)).map textT by
        rw [HT.out, List.map_append, List.map_append, HPM.out, List.map_cons, List.map_cons]
        unfold textT; simp [h2])
      clear h2
      go_wp2_with (at_builtin; refine wpList_append_own _ rfl _ _ 44 rfl w.heap.size 9 i0 (.string ⟨#[]⟩) 1 16 Tryd.underlying44 hi0 hz0 hz1 hz2 rfl (by decide) _ _ _ rfl ((HO.out.alloc _).alloc _) ⟨wr.heap.size + 1, 0, none⟩ 1 1 [.string t1] rfl rfl ?c1q ?c2q ?c3q ?c4q ?c5q ?_)
      case c2q => rfl
      case c3q => unfold maxLen; omega
      case c4q => omega
      case c5q => omega
      intro v5 w5 ho5 hg5 _
      have hb5 : Below w.heap.size wr w5 := (((Below.refl _ wr).alloc hszr _).alloc (by simp; omega) _).trans (grown_own1 ((HO.out.alloc _).alloc _) hg5 (by simp; omega))
      have HO5 := Lib.hid (show w5.ownsRow w.heap.size 9 1 v5 (k + 1) (texts (P ++ [t1])) by simpa [texts] using ho5)
      have HB5 := Lib.hid (HBW.out.trans hb5)
      clear ho5 hg5 hb5
      go_wp2_with fail
      go_roundw
      case rel => exact ⟨k + 1, P ++ [t1], by go_num, by omega, HO5, Lib.hid (by rw [List.length_append, HPL.out]; rfl), Lib.hid (HX.out), HB5⟩
      case measure => simp [intOf]; omega
end Go.Proofs.YtcpbjcemlkohkaaDoor
