/- A stretch put behind a set of the call's own. -/
import Derived.Test.YtohdkidfhohmlaaG
import Derived.Laws.AppendOwn
import Derived.Maps.AppendAt
namespace Go.Proofs.Ytohdkidfhohmlaa
open Go.RowKit
set_option linter.unusedSimpArgs false
set_option linter.unusedVariables false
def Blk (w : World) (g : Nat) (t : TypeId) (cs : Array Value) : Prop := w.heap[g]? = some (.cells cs t (0, 0))
section
variable {w w' : World} {g : Nat} {t : TypeId} {cs : Array Value}
theorem Blk.lt (h : Blk w g t cs) : g < w.heap.size := by
  rcases Nat.lt_or_ge g w.heap.size with hlt | hge
  · exact hlt
  · unfold Blk at h; rw [Array.getElem?_eq_none hge] at h; cases h
theorem Blk.cell (h : Blk w g t cs) (i : Nat) : w.cell? ⟨g, i, none⟩ = cs[i]? := cell_of_row w g i cs t (0, 0) h
theorem Blk.frozen (h : Blk w g t cs) (i : Nat) : w.frozen? ⟨g, i, none⟩ = false := by
  unfold Blk at h
  simp [World.frozen?, h]
theorem Blk.new (w : World) (t : TypeId) (cs : Array Value) : Blk (w.alloc (.cells cs t)) w.heap.size t cs := heap_alloc_new w _
theorem Blk.drewN (h : Blk w g t cs) (n : Nat) : Blk (w.drewN n) g t cs := h
theorem Blk.alloc (h : Blk w g t cs) (o : Obj) : Blk (w.alloc o) g t cs := (Below.heap_alloc w o g h.lt).trans h
theorem Blk.set_ (h : Blk w g t cs) (i : Nat) (u : Value) : Blk (w.setCell ⟨g, i, none⟩ u) g t (cs.setIfInBounds i u) := by
  unfold Blk at h ⊢
  simp [World.setCell, Array.getElem?_modify, h]
theorem Blk.far (h : Blk w g t cs) {p : Addr} (hp : g ≠ p.block) (u : Value) : Blk (w.setCell p u) g t cs := (Below.heap_setCell w p u g hp).trans h
theorem Blk.below {B : Nat} (h : Blk w g t cs) (hb : Below B w w') (hg : g < B) : Blk w' g t cs := (hb.block g hg).trans h
end
theorem Try.info45 : (Try.prog.info? 45).map (fun i => (i.zero, i.size, i.bytes)) = some (some (.agg #[.int .i64 0, .int .i64 0]), 2, 16) := by kernel_rfl
theorem Try.info3 : (Try.prog.info? 3).map (fun i => (i.zero, i.size, i.bytes)) = some (some (.int .i64 0), 1, 8) := by kernel_rfl
/-- A set of the call's own, in blocks from B on. -/
def OwnP (B : Nat) (w : World) (v : Value) (L : List (Int × Int)) : Prop := w.ownsRow B 45 2 v L.length (cellsP L)
def PutPost (B : Nat) (w : World) (M : List (Int × Int)) (e : Ending) (w' : World) : Prop := ∃ v, e = .returned v ∧ OwnP B w' v M ∧ Below B w w'
theorem own_change {w : World} {B g n cap k : Nat} {e : TypeId} {size : Nat} {xs : List Value} (h : w.ownsRow B e size (.slice (some ⟨g, 0, none⟩) n cap) n xs) (u : Value) :
    (w.setCell ⟨g, k, none⟩ u).ownsRow B e size (.slice (some ⟨g, 0, none⟩) n cap) n (xs.set k u) := by
  rcases h.2 with ⟨h0, _⟩ | ⟨g', cap', cur, hv, hb, hc, h1, h2, h3, h4⟩
  · cases h0
  · cases hv
    refine ⟨by rw [List.length_set]; exact h.1, .inr ⟨g, cap, cur.setIfInBounds k u, rfl, hb, Blk.set_ hc k u, h1, h2, by simpa using h3, ?_⟩⟩
    have hm : n * size ≤ cap * size := Nat.mul_le_mul_right _ h1
    rw [← h4]
    apply List.ext_getElem?
    intro i
    simp only [List.getElem?_set, List.getElem?_take, Array.toList_setIfInBounds]
    by_cases hi : i < n * size
    · by_cases hk : k = i
      · subst hk; simp [hi]
        by_cases h5 : k < cur.size
        · simp [h5, hi]; exact Nat.lt_min.2 ⟨hi, h5⟩
        · omega
      · simp [hi, hk]
    · by_cases hk : k = i
      · subst hk; simp [hi]; omega
      · simp [hi, hk]
theorem cellsP_set (M : List (Int × Int)) (p x y : Int) : (cellsP (M ++ [(p, x)])).set (M.length * 2 + 1) (.int .i64 y) = cellsP (M ++ [(p, y)]) := by
  rw [cellsP_app, cellsP_app, show cellsP [(p, x)] = [.int .i64 p, .int .i64 x] from rfl, show cellsP [(p, y)] = [.int .i64 p, .int .i64 y] from rfl]
  rw [List.set_append_right _ _ (by rw [cellsP_length]; omega), cellsP_length, show M.length * 2 + 1 - M.length * 2 = 1 by omega]
  rfl
theorem ownP_row {B : Nat} {w : World} {v : Value} {L : List (Int × Int)} (h : OwnP B w v L) (hn : 0 < L.length) :
    ∃ g cap, v = .slice (some ⟨g, 0, none⟩) L.length cap ∧ L.length ≤ cap ∧ B ≤ g ∧ Row w (some ⟨g, 0, none⟩) (cellsP L) ∧ (∀ i, w.frozen? ⟨g, i, none⟩ = false) ∧
      ∀ k (hk : k < L.length), w.cell? ⟨g, k * 2, none⟩ = some (.int .i64 L[k].1) ∧ w.cell? ⟨g, k * 2 + 1, none⟩ = some (.int .i64 L[k].2) := by
  rcases h.2 with ⟨_, h0⟩ | ⟨g, cap, cur, hv, hb, hc, h1, h2, h3, h4⟩
  · omega
  · have hcell : ∀ i u, (cellsP L)[i]? = some u → w.cell? ⟨g, i, none⟩ = some u := by
      intro i u hu
      rw [Blk.cell hc i, ← hu, ← h4, List.getElem?_take, Array.getElem?_toList, if_pos]
      rcases Nat.lt_or_ge i (L.length * 2) with h | h
      · exact h
      · rw [List.getElem?_eq_none (by rw [cellsP_length]; omega)] at hu; cases hu
    refine ⟨g, cap, hv, h1, hb, .inr ⟨g, 0, rfl, fun j u hu => by rw [Nat.zero_add]; exact hcell j u hu⟩, Blk.frozen hc, fun k hk => ?_⟩
    obtain ⟨e1, e2⟩ := cellsP_get L k hk
    exact ⟨hcell _ _ e1, hcell _ _ e2⟩
theorem put_new_nil (B : Nat) (x y : Int) (w : World) (hB : B ≤ w.heap.size) :
    Calls Try.prog 37 #[.slice none 0 0, .int .i64 x, .int .i64 y] w (PutPost B w [(x, y)]) := by
  obtain ⟨i0, hi0, hz0, hz1, hz2⟩ := info_parts Try.info45
  go_enter Try.func37, Try.ntmps37
  go_wp2_with (at_builtin; refine wpList_append_own _ rfl _ _ 24 rfl B 45 i0 (.agg #[.int .i64 0, .int .i64 0]) 2 16 Try.underlying24 hi0 hz0 hz1 hz2 rfl (by decide) (.slice none 0 0) 0 [] rfl (World.ownsRow_nil _ _ _ _) ⟨w.heap.size, 0, none⟩ 1 1 [.int .i64 x, .int .i64 y] rfl rfl ?c1 ?c2 ?c3 ?c4 ?c5 ?_)
  case c1 =>
    intro j u hj
    match j, hj with
    | 0, hj => simp at hj; subst hj; simp [Addr.add]
    | 1, hj => simp at hj; subst hj; simp [Addr.add]
  case c2 => intro u hu; simp at hu; rcases hu with rfl | rfl <;> rfl
  case c3 => unfold maxLen; omega
  case c4 => omega
  case c5 => simp; omega
  intro v' w1 hown' hgrow _
  have HB := Lib.hid (show Below B w w1 from ((Below.refl B w).alloc hB _).grown hgrow (by simp; omega) (fun k hk => by cases hk))
  have HO := Lib.hid (show OwnP B w1 v' [(x, y)] from hown')
  clear hown' hgrow hB
  go_wp2
  go_ret
  exact ⟨v', rfl, HO.out, HB.out⟩
set_option maxRecDepth 100000 in
set_option maxHeartbeats 1000000 in
theorem put_new (B : Nat) (v : Value) (M : List (Int × Int)) (p z x y : Int) (w : World) (hB : B ≤ w.heap.size) (hown : OwnP B w v (M ++ [(p, z)])) (hn : M.length ≤ 1000000) (hzx : z ≠ x) :
    Calls Try.prog 37 #[v, .int .i64 x, .int .i64 y] w (PutPost B w (M ++ [(p, z)] ++ [(x, y)])) := by
  obtain ⟨i0, hi0, hz0, hz1, hz2⟩ := info_parts Try.info45
  obtain ⟨g, cap, rfl, hcap, hg, hrow, hfz, hcell⟩ := ownP_row hown (by simp)
  have hc := (hcell M.length (by simp)).2
  rw [List.getElem_append_right (Nat.le_refl _)] at hc
  simp only [List.length_append, List.length_cons, List.length_nil, Nat.zero_add, Nat.sub_self, List.getElem_cons_zero] at hc hown hcap ⊢
  obtain ⟨n, hnM⟩ : ∃ n, M.length = n := ⟨_, rfl⟩
  unfold OwnP at hown
  simp only [List.length_append, List.length_cons, List.length_nil, Nat.zero_add, hnM] at hown
  rw [hnM] at hc hcap hn ⊢
  have hne : (z == x) = false := by simp; omega
  have HN := Lib.hid hnM
  have HB := Lib.hid hB
  have hs : IntKind.i64.wrap (((n + 1 : Nat) : Int) - 1) = (n : Int) := by rw [IntWalk.i64_in _ (by omega)]; omega
  clear hnM hB hrow hfz hcell hzx
  go_enter Try.func37, Try.ntmps37
  go_wp2_with (at_builtin; refine wpList_append_own _ rfl _ _ 24 rfl B 45 i0 (.agg #[.int .i64 0, .int .i64 0]) 2 16 Try.underlying24 hi0 hz0 hz1 hz2 rfl (by decide) _ _ _ rfl (hown.alloc _) ⟨w.heap.size, 0, none⟩ 1 1 [.int .i64 x, .int .i64 y] rfl rfl ?c1 ?c2 ?c3 ?c4 ?c5 ?_)
  case c1 =>
    intro j u hj
    match j, hj with
    | 0, hj => simp at hj; subst hj; simp [Addr.add]
    | 1, hj => simp at hj; subst hj; simp [Addr.add]
  case c2 => intro u hu; simp at hu; rcases hu with rfl | rfl <;> rfl
  case c3 => unfold maxLen; omega
  case c4 => omega
  case c5 => have := HB.out; simp; omega
  intro v' w1 hown' hgrow _
  have HB2 := Lib.hid (show Below B w w1 from ((Below.refl B w).alloc HB.out _).grown hgrow (by have := HB.out; simp; omega) (fun k hk => by cases hk; exact hg))
  have HO := Lib.hid (show OwnP B w1 v' (M ++ [(p, z)] ++ [(x, y)]) by unfold OwnP; rw [cellsP_app]; simp only [List.length_append, List.length_cons, List.length_nil, HN.out]; exact hown')
  clear hown' hgrow
  go_wp2
  go_ret
  exact ⟨v', rfl, HO.out, HB2.out⟩
set_option maxRecDepth 100000 in
set_option maxHeartbeats 1000000 in
theorem put_join (B : Nat) (v : Value) (M : List (Int × Int)) (p x y : Int) (w : World) (hB : B ≤ w.heap.size) (hown : OwnP B w v (M ++ [(p, x)])) (hn : M.length ≤ 1000000) :
    Calls Try.prog 37 #[v, .int .i64 x, .int .i64 y] w (PutPost B w (M ++ [(p, y)])) := by
  obtain ⟨g, cap, rfl, hcap, hg, hrow, hfz, hcell⟩ := ownP_row hown (by simp)
  have hc := (hcell M.length (by simp)).2
  rw [List.getElem_append_right (Nat.le_refl _)] at hc
  simp only [List.length_append, List.length_cons, List.length_nil, Nat.zero_add, Nat.sub_self, List.getElem_cons_zero] at hc hown hcap ⊢
  obtain ⟨n, hnM⟩ : ∃ n, M.length = n := ⟨_, rfl⟩
  unfold OwnP at hown
  simp only [List.length_append, List.length_cons, List.length_nil, Nat.zero_add, hnM] at hown
  rw [hnM] at hc hcap hn ⊢
  have HB2 := Lib.hid (show Below B w (w.setCell ⟨g, n * 2 + 1, none⟩ (.int .i64 y)) from (Below.refl B w).setCell (p := ⟨g, n * 2 + 1, none⟩) hg _)
  have HO := Lib.hid (show OwnP B (w.setCell ⟨g, n * 2 + 1, none⟩ (.int .i64 y)) (.slice (some ⟨g, 0, none⟩) (n + 1) cap) (M ++ [(p, y)]) by
    have h := own_change (k := n * 2 + 1) hown (.int .i64 y)
    rw [← hnM, cellsP_set] at h
    unfold OwnP
    simp only [List.length_append, List.length_cons, List.length_nil, Nat.zero_add, ← hnM]
    exact h)
  have hf := hfz (n * 2 + 1)
  have hs : IntKind.i64.wrap (((n + 1 : Nat) : Int) - 1) = (n : Int) := by rw [IntWalk.i64_in _ (by omega)]; omega
  clear hnM hB hrow hfz hcell hown
  go_enter Try.func37, Try.ntmps37
  go_wp2
  go_ret
  exact ⟨_, rfl, HO.out, HB2.out⟩
end Go.Proofs.Ytohdkidfhohmlaa
