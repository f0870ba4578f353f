/- Two lists of texts, put behind one another. -/
import Derived.Test.YtbecgknahhhfiaaJ
import Derived.Lib.AppendZeros
import Derived.Maps.AppendAt
import Derived.Laws.AppendOwnNone
namespace Go.Proofs.Ytbecgknahhhfiaa
open Go.RowKit
set_option linter.unusedSimpArgs false
set_option linter.unusedVariables false
theorem info_parts {t : TypeId} {z : Value} {a b : Nat} (h : (Try.prog.info? t).map (fun i => (i.zero, i.size, i.bytes)) = some (some z, a, b)) :
    ∃ i0, Try.prog.info? t = some i0 ∧ i0.zero = some z ∧ i0.size = a ∧ i0.bytes = b := by
  cases hi : Try.prog.info? t with
  | none => rw [hi] at h; cases h
  | some i => rw [hi] at h; simp at h; exact ⟨i, rfl, h.1, h.2.1, h.2.2⟩
theorem info9 : (Try.prog.info? 9).map (fun i => (i.zero, i.size, i.bytes)) = some (some (.string ⟨#[]⟩), 1, 16) := by kernel_rfl
theorem own_below {w w' : World} {B : Nat} {e : TypeId} {size : Nat} {v : Value} {n : Nat} {xs : List Value} (h : w.ownsRow B e size v n xs) (hb : Below w.heap.size w w') : w'.ownsRow B e size v n xs :=
  h.kept (row := none) ⟨hb.os, hb.tape, hb.output, hb.size, fun i hi _ => hb.block i hi⟩ (by cases v.ownBlock <;> simp)
theorem own_slice {B : Nat} {w : World} {e : TypeId} {v : Value} {n : Nat} {xs : List Value} (h : w.ownsRow B e 1 v n xs) : ∃ A c, v = .slice A n c ∧ Row w A xs ∧ n ≤ c ∧ (A = none → c = 0) := by
  have hn : n = xs.length := by have := h.1; simpa using this.symm
  rcases h.2 with ⟨rfl, h0⟩ | ⟨g, cap, cur, rfl, _, _, hc, _⟩
  · have hz0 : xs = [] := List.length_eq_zero_iff.1 (by omega)
    exact ⟨none, 0, by rw [h0], .inl hz0, by omega, fun _ => rfl⟩
  · rcases Nat.eq_zero_or_pos n with h0 | h0
    · have hz0 : xs = [] := List.length_eq_zero_iff.1 (by omega)
      exact ⟨_, cap, rfl, .inl hz0, hc, fun h => by cases h⟩
    · obtain ⟨g', cap', he, _, hr⟩ := Row.of_own h h0
      cases he
      exact ⟨_, cap, rfl, hr, hc, fun h => by cases h⟩
def GrowPost (w : World) (e : Ending) (w' : World) : Prop := ∃ v, e = .returned v ∧ w'.ownsRow w.heap.size 9 1 v 0 [] ∧ Below w.heap.size w w'
set_option maxRecDepth 100000 in
set_option maxHeartbeats 1000000 in
theorem grow_any (n : Nat) (w : World) (hn : n ≤ 1000) : Calls Try.prog 38 #[.slice none 0 0, .int .i64 n] w (GrowPost w) := by
  obtain ⟨i0, hi0, hz0, hz1, hz2⟩ := info_parts info9
  rcases Nat.eq_zero_or_pos n with h0 | h0
  · subst h0
    go_enter Try.func38, Try.ntmps38
    go_wp2_with fail
    go_ret
    exact ⟨_, rfl, World.ownsRow_nil _ _ _ _, Below.refl _ _⟩
  · have h1 : ¬ (n : Int) < 0 := by omega
    have h2 : (0 : Int) < (n : Int) := by omega
    have hr := fun ty => Lib.run_append_nil_zeros (P := Try.prog) w 22 3 ty 9 i0 (.string ⟨#[]⟩) .i64 .i64 Try.underlying22 Try.underlying3 hi0 hz0 n h0 (by omega) (by omega) (by rw [hz2]; omega)
    obtain ⟨g, hg⟩ : ∃ g, g = grownCap w n 0 9 := ⟨_, rfl⟩
    have hg1 : n ≤ g := hg ▸ grownCap_ge w n 0 9
    have hg2 : g ≤ maxLen := hg ▸ grownCap_le_maxLen w n 0 9 (by unfold maxLen; omega)
    obtain ⟨cs, hcs⟩ : ∃ cs, cs = Builtin.zeroCells (Value.string ⟨#[]⟩).cells n ++ Builtin.zeroCells (Value.string ⟨#[]⟩).cells (g - n) := ⟨_, rfl⟩
    have hsz : cs.size = g := by rw [hcs]; simp [Builtin.zeroCells, Value.cells]; omega
    rw [← hg, ← hcs] at hr
    have HSZ := Lib.hid hsz
    clear hg hcs hsz
    go_enter Try.func38, Try.ntmps38
    go_wp2_with (refine Lib.wpList_append_run _ rfl _ _ 22 3 rfl _ _ rfl rfl _ _ (hr _) ?_)
    go_ret
    exact ⟨_, rfl, World.ownsRow_made w cs g (Nat.le_refl _) hg2 (by rw [HSZ.out, Nat.mul_one]), below_drewN (bpush (Below.refl _ _) _) _⟩
theorem texts_append (L M : List ByteArray) : texts L ++ texts M = texts (L ++ M) := by simp [texts]
def CatPost (w : World) (L M : List ByteArray) (e : Ending) (w' : World) : Prop := ∃ v, e = .returned v ∧ w'.ownsRow w.heap.size 9 1 v (L.length + M.length) (texts (L ++ M)) ∧ Below w.heap.size w w'
theorem one_texts (L : List ByteArray) : ∀ u ∈ texts L, u.oneCell' = true := by
  intro u hu; unfold texts at hu; obtain ⟨s, _, rfl⟩ := List.mem_map.1 hu; rfl
theorem row_grown {w w' : World} {row : Option Nat} {g off : Nat} {xs : List Value} (hg : w.grownBy w' row) (h : Row w (some ⟨g, off, none⟩) xs) (hne : some g ≠ row) : Row w' (some ⟨g, off, none⟩) xs := by
  rcases h with h | ⟨b, off', he, hc⟩
  · exact .inl h
  · cases he
    exact .inr ⟨_, _, rfl, fun j u hu => hg.cell (hc j u hu) hne⟩
theorem grown_below {w w' : World} {B : Nat} {v : Value} {e : TypeId} {n : Nat} {xs : List Value} (hown : w.ownsRow B e 1 v n xs) (hg : w.grownBy w' v.ownBlock) (h : B ≤ w.heap.size) : Below B w w' :=
  ⟨hg.os, hg.tape, hg.output, hg.size, fun i hi => hg.block i (by omega) (by
    rcases hown.2 with ⟨rfl, _⟩ | ⟨g, cap, cur, rfl, hb, _⟩
    · simp [Value.ownBlock]
    · simp [Value.ownBlock]; omega)⟩
theorem Row.at' {w : World} {ad : Addr} {xs : List Value} (h : Row w (some ad) xs) : ∀ j u, xs[j]? = some u → w.cell? (ad.add j) = some u := by
  intro j u hu
  rcases h with rfl | ⟨b, off, he, hc⟩
  · simp at hu
  · cases he
    have e : (⟨b, off, none⟩ : Addr).add j = ⟨b, off + j, none⟩ := by
      unfold Addr.add; split
      · rename_i h; subst h; rfl
      · rfl
    rw [e]; exact hc j u hu
set_option maxRecDepth 100000 in
set_option maxHeartbeats 4000000 in
theorem concat_any (b q : Nat) (A B : Option Addr) (n c m d : Nat) (L M : List ByteArray) (w : World) (h0 : w.cell? ⟨b, 0, none⟩ = some (.slice A n c)) (h1 : w.cell? ⟨b, 1, none⟩ = some (.slice B m d))
    (hA : Row w A (texts L)) (hB : Row w B (texts M)) (hn : n = L.length) (hm : m = M.length) (hnc : n ≤ c) (hmd : m ≤ d) (ha : A = none → c = 0) (hb : B = none → d = 0) (hn2 : n ≤ 100) (hm2 : m ≤ 100) :
    Calls Try.prog 28 #[.slice (some ⟨b, 0, none⟩) 2 q] w (CatPost w L M) := by
  obtain ⟨i0, hi0, hz0, hz1, hz2⟩ := info_parts info9
  have HA := Lib.hid hA
  have HB := Lib.hid hB
  have HN := Lib.hid hn
  have HM := Lib.hid hm
  have Ha := Lib.hid ha
  have Hb := Lib.hid hb
  clear hA hB hn hm ha hb
  go_enter Try.func28, Try.ntmps28
  go_wp2_with fail
  go_loop [3, 5, 11] (fun s x i => ∃ k t : Nat, i = .int .i64 k ∧ s = .int .i64 t ∧ ((k = 0 ∧ t = 0) ∨ (k = 1 ∧ t = n) ∨ (k = 2 ∧ t = n + m))) (fun _ _ i => 2 - (intOf i).toNat)
  case atStart => exact ⟨0, 0, rfl, rfl, .inl ⟨rfl, rfl⟩⟩
  case round =>
    obtain ⟨k, t, rfl, rfl, hk⟩ := hrel
    rcases hk with ⟨rfl, rfl⟩ | ⟨rfl, rfl⟩ | ⟨rfl, rfl⟩
    · go_wp2_with fail
      go_round
      case rel => exact ⟨1, n, by go_num, by go_num, .inr (.inl ⟨rfl, rfl⟩)⟩
      case measure => simp [intOf]
    · go_wp2_with fail
      go_round
      case rel => exact ⟨2, t + m, by go_num, by go_num, .inr (.inr ⟨rfl, rfl⟩)⟩
      case measure => simp [intOf]
    · go_wp2_with fail
      obtain ⟨s, hs⟩ : ∃ s, s = n + m := ⟨_, rfl⟩
      have HS := Lib.hid hs
      refine (grow_any _ _ (by omega)).mono ?_
      rintro e w1 ⟨v, rfl, ho, hb1⟩
      have HO := Lib.hid ho
      have HB1 := Lib.hid hb1
      clear ho hb1
      obtain ⟨hc1, hf1⟩ := bcell HB1.out
      have g0 : w1.cell? ⟨b, 0, none⟩ = some (.slice A n c) := cell_on HB1.out h0
      have g1 : w1.cell? ⟨b, 1, none⟩ = some (.slice B m d) := cell_on HB1.out h1
      have W0 := Lib.hid h0
      have W1 := Lib.hid h1
      have HLT := Lib.hid (lt_of_cell h0)
      clear h0 h1 hc1 hf1
      go_wp2_with fail
      go_loopw [6, 8, 27] (fun v x i wr => ∃ k t : Nat, ∃ l : List ByteArray, i = .int .i64 k ∧ Hid (wr.ownsRow w.heap.size 9 1 v t (texts l)) ∧ Hid (Below w.heap.size w wr) ∧ Hid (wr.cell? ⟨b, 0, none⟩ = some (.slice A n c) ∧ wr.cell? ⟨b, 1, none⟩ = some (.slice B m d)) ∧ ((k = 0 ∧ t = 0 ∧ Hid (l = [])) ∨ (k = 1 ∧ t = n ∧ Hid (l = L)) ∨ (k = 2 ∧ t = s ∧ Hid (l = L ++ M)))) (fun _ _ i _ => 2 - (intOf i).toNat)
      case atStart => exact ⟨0, 0, [], rfl, HO, HB1, Lib.hid ⟨g0, g1⟩, .inl ⟨rfl, rfl, Lib.hid rfl⟩⟩
      case round =>
        obtain ⟨k, t, l, rfl, HO2, HBW, HG, hk⟩ := hrel
        clear g0 g1
        obtain ⟨g0, g1⟩ := HG.out
        have hlw : b < w.heap.size := HLT.out
        rcases hk with ⟨rfl, rfl, HL⟩ | ⟨rfl, rfl, HL⟩ | ⟨rfl, rfl, HL⟩
        · cases A with
          | none =>
            have e1 : c = 0 := Ha.out rfl
            have e2 : n = 0 := by omega
            have e3 : L = l := by rw [HL.out]; have := List.eq_nil_of_length_eq_zero (HN.out.symm.trans e2); simp [this]
            have E3 := Lib.hid e3
            have G : wr.cell? ⟨b, 0, none⟩ = some (.slice none 0 0) := by rw [g0, e1, e2]
            have E2 := Lib.hid e2
            clear g0 g1 e1 e2 e3
            go_wp2_with (at_builtin; refine wpList_append_own_none rfl _ _ 22 rfl w.heap.size 9 i0 1 Try.underlying22 hi0 _ _ _ rfl HO2.out rfl ?_)
            go_roundw
            case rel => exact ⟨1, _, l, by go_num, HO2, HBW, HG, .inr (.inl ⟨rfl, (by have := E2.out; have := HS.out; omega), Lib.hid E3.out.symm⟩)⟩
            case measure => simp [intOf]
          | some a =>
            have HR := Lib.hid ((HA.out.keep (Nat.le_refl _) HBW.out).at')
            clear g1
            go_wp2_with (at_builtin; refine wpList_append_own_at _ rfl _ _ 22 rfl w.heap.size 9 i0 (.string ⟨#[]⟩) 1 16 Try.underlying22 hi0 hz0 hz1 hz2 rfl (by decide) _ _ _ rfl HO2.out a n c (texts L) rfl ?c1 ?c2 ?c3 ?c4 ?c5 ?c6 ?_)
            case c1 => rw [Nat.mul_one]; simp [texts]; exact HN.out.symm
            case c2 => exact HR.out
            case c3 => exact one_texts L
            case c4 => unfold maxLen; omega
            case c5 => omega
            case c6 => exact HBW.out.size
            intro v' w3 ho' hg' _ hrow
            have HO3 := Lib.hid (show w3.ownsRow w.heap.size 9 1 v' n (texts (L)) by rw [texts_append, HL.out] at ho'; simpa using ho')
            have HBW3 := Lib.hid (HBW.out.trans (grown_below HO2.out hg' HBW.out.size))
            have HG3 := Lib.hid (show w3.cell? ⟨b, 0, none⟩ = some _ ∧ w3.cell? ⟨b, 1, none⟩ = some _ from ⟨cell_on HBW3.out W0.out, cell_on HBW3.out W1.out⟩)
            clear ho' hg' hrow
            go_wp2_with fail
            go_roundw
            case rel => exact ⟨1, n, L, by go_num, HO3, HBW3, HG3, .inr (.inl ⟨rfl, (by have := HS.out; omega), Lib.hid rfl⟩)⟩
            case measure => simp [intOf]
        · cases B with
          | none =>
            have e1 : d = 0 := Hb.out rfl
            have e2 : m = 0 := by omega
            have e3 : L ++ M = l := by rw [HL.out]; have := List.eq_nil_of_length_eq_zero (HM.out.symm.trans e2); simp [this]
            have E3 := Lib.hid e3
            have G : wr.cell? ⟨b, 1, none⟩ = some (.slice none 0 0) := by rw [g1, e1, e2]
            have E2 := Lib.hid e2
            clear g0 g1 e1 e2 e3
            go_wp2_with (at_builtin; refine wpList_append_own_none rfl _ _ 22 rfl w.heap.size 9 i0 1 Try.underlying22 hi0 _ _ _ rfl HO2.out rfl ?_)
            go_roundw
            case rel => exact ⟨2, _, l, by go_num, HO2, HBW, HG, .inr (.inr ⟨rfl, (by have := E2.out; have := HS.out; omega), Lib.hid E3.out.symm⟩)⟩
            case measure => simp [intOf]
          | some a =>
            have HR := Lib.hid ((HB.out.keep (Nat.le_refl _) HBW.out).at')
            clear g0
            go_wp2_with (at_builtin; refine wpList_append_own_at _ rfl _ _ 22 rfl w.heap.size 9 i0 (.string ⟨#[]⟩) 1 16 Try.underlying22 hi0 hz0 hz1 hz2 rfl (by decide) _ _ _ rfl HO2.out a m d (texts M) rfl ?c1 ?c2 ?c3 ?c4 ?c5 ?c6 ?_)
            case c1 => rw [Nat.mul_one]; simp [texts]; exact HM.out.symm
            case c2 => exact HR.out
            case c3 => exact one_texts M
            case c4 => unfold maxLen; omega
            case c5 => omega
            case c6 => exact HBW.out.size
            intro v' w3 ho' hg' _ hrow
            have HO3 := Lib.hid (show w3.ownsRow w.heap.size 9 1 v' (t + m) (texts (L ++ M)) by rw [texts_append, HL.out] at ho'; exact ho')
            have HBW3 := Lib.hid (HBW.out.trans (grown_below HO2.out hg' HBW.out.size))
            have HG3 := Lib.hid (show w3.cell? ⟨b, 0, none⟩ = some _ ∧ w3.cell? ⟨b, 1, none⟩ = some _ from ⟨cell_on HBW3.out W0.out, cell_on HBW3.out W1.out⟩)
            clear ho' hg' hrow
            go_wp2_with fail
            go_roundw
            case rel => exact ⟨2, t + m, L ++ M, by go_num, HO3, HBW3, HG3, .inr (.inr ⟨rfl, (by have := HS.out; omega), Lib.hid rfl⟩)⟩
            case measure => simp [intOf]
        · go_wp2_with fail
          go_ret
          exact ⟨_, rfl, by rw [← HN.out, ← HM.out, ← HS.out, ← HL.out]; exact HO2.out, HBW.out⟩
end Go.Proofs.Ytbecgknahhhfiaa
