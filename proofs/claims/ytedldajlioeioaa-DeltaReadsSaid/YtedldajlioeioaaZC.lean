/- The program's reader: bytes, and a text that fails. -/
import Derived.Test.YtedldajlioeioaaZ
namespace Go.Proofs.Ytedldajlioeioaa
open Go.RowKit
set_option linter.unusedSimpArgs false
set_option linter.unusedVariables false
set_option maxRecDepth 100000 in
set_option maxHeartbeats 1000000 in
theorem rbytes_bad (rb : Nat) (bs : List Int) (m : Int) (w : World) (hR : Rd w rb bs) (hbad : m < 0 ∨ (bs.length : Int) < m) :
    Calls Try.prog 42 #[.pointer (some ⟨rb, 0, none⟩), .int .i64 m] w (ReadPost w rb (.slice none 0 0) 11 bs) := by
  have hR' := Lib.hid hR
  obtain ⟨A, n, c, h1, h2, h3, h4, h5, h6⟩ := hR
  have H2 := Lib.hid h2
  rw [← h2] at hbad
  clear h2 h6
  go_enter Try.func42, Try.ntmps42
  go_wp2_with fail
  all_goals
    go_ret2
    exact ⟨rfl, hR'.out, grown_refl _ _⟩
/-- A slice of these bytes in a block that was not there before. -/
def SVn (B : Nat) (w : World) (v : Value) (xs : List Int) : Prop := SV w v xs ∧ ∀ g off m c, v = .slice (some ⟨g, off, none⟩) m c → B ≤ g
theorem SVn.keep {B mb : Nat} {w w2 : World} {v : Value} {xs : List Int} (h : SVn B w v xs) (hg : w.grownBy w2 (some mb)) (hlt : mb < B) : SV w2 v xs := by
  obtain ⟨⟨A, c, rfl, hr, hn⟩, hB⟩ := h
  refine ⟨A, c, rfl, ?_, hn⟩
  rcases hr with h | ⟨b, off, rfl, hc⟩
  · exact .inl h
  · exact .inr ⟨b, off, rfl, fun j u hu => hg.cell (hc j u hu) (by have := hB _ _ _ _ rfl; simp; omega)⟩
theorem SVn.nil (B : Nat) (w : World) : SVn B w (.slice none 0 0) [] := ⟨⟨none, 0, rfl, .inl rfl, fun _ => rfl⟩, fun _ _ _ _ h => by simp at h⟩
theorem below_grown {w w1 : World} (h : Below w.heap.size w w1) (row : Option Nat) : w.grownBy w1 row := ⟨h.os, h.tape, h.output, h.size, fun i hi _ => h.block i hi⟩
set_option maxRecDepth 100000 in
set_option maxHeartbeats 1000000 in
theorem rbytes_zero (rb : Nat) (bs : List Int) (w : World) (hR : Rd w rb bs) :
    Calls Try.prog 42 #[.pointer (some ⟨rb, 0, none⟩), .int .i64 0] w (ReadPost w rb (.slice none 0 0) 0 bs) := by
  have hR' := Lib.hid hR
  obtain ⟨A, n, c, h1, h2, h3, h4, h5, h6⟩ := hR
  have H2 := Lib.hid h2
  have H6 := Lib.hid h6
  have hfz := h5 0
  obtain ⟨i0, hi0, hz0, hz1, hz2⟩ := info_parts Try.info5
  clear h2 h6 h5
  cases A with
  | none =>
    have hbs : bs = [] := by
      rcases H6.out with h | ⟨b, off, h, _⟩
      · exact h
      · cases h
    have HQ := Lib.hid (hR'.out.put (cs := bs) (A := none) (n := n) (c := c) H2.out h3 h4 (.inl hbs))
    clear hbs
    go_enter Try.func42, Try.ntmps42
    go_wp2_with (at_builtin; refine wpList_append_own_none rfl _ _ 24 rfl w.heap.size 5 i0 1 Try.underlying24 hi0 (.slice none 0 0) 0 [] rfl (World.ownsRow_nil _ _ _ _) rfl ?_)
    go_ret2
    exact ⟨rfl, HQ.out.1, HQ.out.2⟩
  | some ad =>
    go_enter Try.func42, Try.ntmps42
    go_wp2_with (at_builtin; refine wpList_append_own _ rfl _ _ 24 rfl w.heap.size 5 i0 (.int .u8 0) 1 1 Try.underlying24 hi0 hz0 hz1 hz2 rfl (by decide) (.slice none 0 0) 0 [] rfl (World.ownsRow_nil _ _ _ _) ad 0 c [] rfl rfl (by simp) (by simp) (by simp [maxLen]) (by omega) (Nat.le_refl _) ?_)
    intro v' w1 hown hgrow hiff
    have hv : v' = .slice none 0 0 := hiff
    have hB : Below w.heap.size w w1 := (Below.refl _ _).grown hgrow (Nat.le_refl _) (by simp [Value.ownBlock])
    subst hv
    have hc1 := cell_on hB h1
    have hf1 := ((bcell hB).2 rb 0 (lt_of_cell h1)).trans hfz
    have hR1 := hR'.out.keep hB
    have HQ := Lib.hid (hR1.put (cs := bs) (A := some ad) (n := n) (c := c) H2.out h3 h4 (by
      rcases H6.out with h | ⟨b, off, h7, h8, h9⟩
      · exact .inl h
      · exact .inr ⟨b, off, h7, h8, fun j u hu => cell_on hB (h9 j u hu)⟩))
    have HG := Lib.hid (below_grown hB (some rb))
    clear hown hgrow hiff hB hR1 h1 hfz
    go_wp2
    go_ret2
    exact ⟨rfl, HQ.out.1, HG.out.trans HQ.out.2⟩
set_option maxRecDepth 100000 in
set_option maxHeartbeats 2000000 in
theorem rbytes_good (rb : Nat) (bs : List Int) (M : Nat) (w : World) (hR : Rd w rb bs) (hM : M ≤ bs.length) (hpos : 0 < M) :
    Calls Try.prog 42 #[.pointer (some ⟨rb, 0, none⟩), .int .i64 M] w fun e w' => ∃ v, ReadPost w rb v 0 (bs.drop M) e w' ∧ SVn w.heap.size w' v (bs.take M) := by
  have hR' := Lib.hid hR
  obtain ⟨A, n, c, h1, h2, h3, h4, h5, h6⟩ := hR
  rcases h6 with rfl | ⟨b, off, rfl, h8, h9⟩
  · simp at hM; omega
  rw [← h2] at hM
  have H2 := Lib.hid h2
  have H9 := Lib.hid h9
  have hfz := h5 0
  have hM0 : decide ((M : Int) < 0) = false := by simp
  have hMn : decide ((n : Int) < (M : Int)) = false := by simp; omega
  obtain ⟨T, hT⟩ : ∃ T, T = bs.take M := ⟨_, rfl⟩
  have htl : T.length = M := by rw [hT, List.length_take, ← h2]; omega
  have hrow : Row w (some ⟨b, off, none⟩) (T.map (Value.int .u8)) := .inr ⟨b, off, rfl, fun j u hu => h9 j u (by
    rw [hT, List.getElem?_map, List.getElem?_take] at hu
    rw [List.getElem?_map]
    split at hu
    · exact hu
    · simp at hu)⟩
  obtain ⟨i0, hi0, hz0, hz1, hz2⟩ := info_parts Try.info5
  rw [← hT]
  clear h2 h5 h9 hT
  by_cases hcM : c = M
  · subst hcM
    go_enter Try.func42, Try.ntmps42
    go_wp2_with (at_builtin; refine wpList_append_own _ rfl _ _ 24 rfl w.heap.size 5 i0 (.int .u8 0) 1 1 Try.underlying24 hi0 hz0 hz1 hz2 rfl (by decide) (.slice none 0 0) 0 [] rfl (World.ownsRow_nil _ _ _ _) ⟨b, off, none⟩ c c (T.map (Value.int .u8)) rfl ?h1 ?h2 ?h3 ?h4 ?h5 ?h6 ?_)
    case h1 => simp; omega
    case h2 => exact hrow.adds _ rfl
    case h3 => intro u hu; simp only [List.mem_map] at hu; obtain ⟨x, _, rfl⟩ := hu; rfl
    case h4 => unfold maxLen; omega
    case h5 => omega
    case h6 => exact Nat.le_refl _
    intro v' w1 hown hgrow _
    have hB : Below w.heap.size w w1 := (Below.refl _ _).grown hgrow (Nat.le_refl _) (by simp [Value.ownBlock])
    have hc1 := cell_on hB h1
    have hlt := lt_of_cell h1
    have hf1 := ((bcell hB).2 rb 0 hlt).trans hfz
    have hR1 := hR'.out.keep hB
    have HQ := Lib.hid (hR1.put (cs := bs.drop c) (A := some ⟨b, off, none⟩) (n := 0) (c := 0) (by rw [List.length_drop, ← H2.out]; omega) (by omega) (by omega) (.inl (List.drop_of_length_le (by have := H2.out; omega))))
    have HG := Lib.hid (below_grown hB (some rb))
    obtain ⟨g, cap, rfl, hcap, hrow1⟩ := Row.of_own hown hpos
    have hg := (hown.lt g rfl).1
    have HSV := Lib.hid (show SVn w.heap.size (w1.setCell ⟨rb, 0, none⟩ (.slice (some ⟨b, off, none⟩) 0 0)) (.slice (some ⟨g, 0, none⟩) c cap) T from by
      refine ⟨⟨some ⟨g, 0, none⟩, cap, by rw [htl], ?_, fun h => by cases h⟩, fun g' off' m' c' h => by cases h; exact hg⟩
      rcases hrow1 with h | ⟨b', off', he, hc⟩
      · exact .inl h
      · cases he
        exact .inr ⟨_, _, rfl, fun j u hu => (World.cell?_setCell_other w1 _ _ _ (fun e => by have := congrArg Addr.block e; simp at this; omega)).trans (hc j u hu)⟩)
    clear hown hgrow hB hR1 h1 hfz hrow1 hrow htl hlt
    go_wp2
    go_ret2
    exact ⟨_, ⟨rfl, HQ.out.1, HG.out.trans HQ.out.2⟩, HSV.out⟩
  · have hc0 : ¬ c = 0 := by omega
    have hc1' : 0 < c := by omega
    go_enter Try.func42, Try.ntmps42
    go_wp2_with (at_builtin; refine wpList_append_own _ rfl _ _ 24 rfl w.heap.size 5 i0 (.int .u8 0) 1 1 Try.underlying24 hi0 hz0 hz1 hz2 rfl (by decide) (.slice none 0 0) 0 [] rfl (World.ownsRow_nil _ _ _ _) ⟨b, off, none⟩ M c (T.map (Value.int .u8)) rfl ?h1 ?h2 ?h3 ?h4 ?h5 ?h6 ?_)
    case h1 => simp; omega
    case h2 => exact hrow.adds _ rfl
    case h3 => intro u hu; simp only [List.mem_map] at hu; obtain ⟨x, _, rfl⟩ := hu; rfl
    case h4 => unfold maxLen; omega
    case h5 => omega
    case h6 => exact Nat.le_refl _
    intro v' w1 hown hgrow _
    have hB : Below w.heap.size w w1 := (Below.refl _ _).grown hgrow (Nat.le_refl _) (by simp [Value.ownBlock])
    have hc1 := cell_on hB h1
    have hlt := lt_of_cell h1
    have hf1 := ((bcell hB).2 rb 0 hlt).trans hfz
    have hR1 := hR'.out.keep hB
    have HQ := Lib.hid (hR1.put (cs := bs.drop M) (A := some ⟨b, off + M, none⟩) (n := n - M) (c := c - M) (by rw [List.length_drop, ← H2.out]) (by omega) (by omega)
      (.inr ⟨b, off + M, rfl, h8, fun j u hu => cell_on hB (by
        rw [Nat.add_assoc]
        exact H9.out (M + j) u (by rw [List.getElem?_map, List.getElem?_drop] at hu; rw [List.getElem?_map]; exact hu))⟩))
    have HG := Lib.hid (below_grown hB (some rb))
    obtain ⟨g, cap, rfl, hcap, hrow1⟩ := Row.of_own hown hpos
    have hg := (hown.lt g rfl).1
    have HSV := Lib.hid (show SVn w.heap.size (w1.setCell ⟨rb, 0, none⟩ (.slice (some ⟨b, off + M, none⟩) (n - M) (c - M))) (.slice (some ⟨g, 0, none⟩) M cap) T from by
      refine ⟨⟨some ⟨g, 0, none⟩, cap, by rw [htl], ?_, fun h => by cases h⟩, fun g' off' m' c' h => by cases h; exact hg⟩
      rcases hrow1 with h | ⟨b', off', he, hc⟩
      · exact .inl h
      · cases he
        exact .inr ⟨_, _, rfl, fun j u hu => (World.cell?_setCell_other w1 _ _ _ (fun e => by have := congrArg Addr.block e; simp at this; omega)).trans (hc j u hu)⟩)
    clear hown hgrow hB hR1 h1 hfz hrow1 hrow htl hlt
    go_wp2
    go_ret2
    exact ⟨_, ⟨rfl, HQ.out.1, HG.out.trans HQ.out.2⟩, HSV.out⟩
end Go.Proofs.Ytedldajlioeioaa
