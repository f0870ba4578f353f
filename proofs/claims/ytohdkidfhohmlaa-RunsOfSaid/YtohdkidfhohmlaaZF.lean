/- The document's set of rising numbers. -/
import Derived.Test.YtohdkidfhohmlaaZA
import Derived.Deep.RegionHeld3
import Derived.Deep.AppendLies
import Derived.StillTactics
import Derived.OwnWalk
namespace Go.Proofs.Ytohdkidfhohmlaa
open Go.RowKit
set_option linter.unusedSimpArgs false
set_option linter.unusedVariables false
def RSetPost (w : World) (z : List Int) (e : Ending) (w' : World) : Prop :=
  ∃ L A c, e = .returned (.slice A L.length c) ∧ Row w' A (cellsP L) ∧ rightB (-1) L = true ∧ (∀ x, hasB x L = decide (x ∈ z)) ∧ Below w.heap.size w w'
/-- Rising numbers of rows. -/
def risR (z : List Int) : Prop := (∀ i (h : i + 1 < z.length), z[i] < z[i + 1]) ∧ ∀ x ∈ z, 0 ≤ x ∧ x < 65536
set_option maxRecDepth 100000 in
set_option maxHeartbeats 4000000 in
theorem rset_any (A : Option Addr) (n c : Nat) (z : List Int) (w : World) (hA : Row w A (z.map (Value.int .i64))) (hz : n = z.length) (hn : n ≤ 1000000) (hr : risR z) :
    Calls Try.prog 38 #[.slice A n c] w (RSetPost w z) := by
  obtain ⟨i0, hi0, hz0, hz1, hz2⟩ := info_parts Try.info45
  have HZL := Lib.hid hz
  have HRS := Lib.hid hr
  clear hz hr
  go_enter Try.func38, Try.ntmps38
  go_wp2_with fail
  go_loopw [3, 4] (fun s i wr => ∃ (k : Nat) (L : List (Int × Int)), k ≤ n ∧ i = .int .i64 k ∧ Hid (OfSt z k L) ∧ Hid (L = [] → s = .slice none 0 0) ∧ Hid (OwnP w.heap.size wr s L) ∧ Hid (Below w.heap.size w wr)) (fun _ i _ => n - (intOf i).toNat)
  case atStart => exact ⟨0, [], by omega, rfl, Lib.hid (OfSt.zero z), Lib.hid (fun _ => rfl), Lib.hid (World.ownsRow_nil _ _ _ _), Lib.hid (Below.refl _ _)⟩
  case round =>
    obtain ⟨k, L, hk, rfl, HST, HNIL, HOW, HB⟩ := hrel
    by_cases hlt : k < n
    · have hkz : k < z.length := by have := HZL.out; omega
      obtain ⟨b, off, hA', c0⟩ := (hA.keep (Nat.le_refl _) HB.out).cell hkz
      obtain ⟨x, hx⟩ : ∃ x, x = z[k] := ⟨_, rfl⟩
      rw [← hx] at c0
      have hxb := HRS.out.2 x (by rw [hx]; exact List.getElem_mem hkz)
      obtain ⟨hx0, hx6⟩ := hxb
      have hk1 : (k : Int) < (n : Int) := by omega
      have hk0 : (0 : Int) ≤ (k : Int) := by omega
      have hsw : IntKind.i64.wrap (x + 1) = x + 1 := IntWalk.i64_in _ (by omega)
      have hlast : lastE (-1) L ≤ x := by
        rcases Nat.eq_zero_or_pos k with h0 | h0
        · have : L = [] := HST.out.2.2.1.2 h0
          rw [this]; show (-1 : Int) ≤ x; omega
        · rw [HST.out.2.2.2.1 h0, List.getD_eq_getElem?_getD, List.getElem?_eq_getElem (by omega)]
          have := HRS.out.1 (k - 1) (by omega)
          have e : k - 1 + 1 = k := by omega
          simp only [e] at this
          simp; omega
      obtain ⟨N, n1, n2, n3, n4, hc⟩ := putted (y := x + 1) HST.out.1 hlast hx0 (by omega) (by omega)
      have HST2 := Lib.hid (HST.out.next hkz hx hx0 hx6 n1 n2 n3 n4)
      have HNIL2 : Hid (∀ v : Value, N = [] → v = .slice none 0 0) := Lib.hid (fun _ h => absurd h n4)
      have HX := Lib.hid hx
      have hlen := right_length HST.out.1
      clear hx n1 n2 n3 n4 hlast
      have hbw : b < w.heap.size := by
        rcases hA with h0 | ⟨b', off', he, hcc⟩
        · have hz0 : z = [] := by simpa using h0
          rw [hz0] at hkz; simp at hkz
        · rw [hA'] at he; cases he; exact lt_of_cell (hcc k _ (by rw [List.getElem?_map, List.getElem?_eq_getElem hkz]; rfl))
      rcases hc with ⟨rfl, rfl⟩ | ⟨M, p, rfl, rfl⟩ | ⟨M, p, t, rfl, htx, rfl⟩
      · have hs : _ = Value.slice none 0 0 := HNIL.out rfl
        subst hs
        clear hA
        subst hA'
        go_wp2_with fail
        go_quiet (fail)
        obtain ⟨wd, hwd⟩ : ∃ wd, wd = wr.drewN nq := ⟨_, rfl⟩
        have HBd := Lib.hid (show Below w.heap.size w wd by rw [hwd]; exact below_drewN HB.out _)
        have c0d : wd.cell? ⟨b, off + k, none⟩ = some (.int .i64 x) := by rw [hwd]; exact c0
        rw [← hwd]
        clear hwd c0 HB
        have hszd : w.heap.size ≤ wd.heap.size := HBd.out.size
        have hown : wd.ownsRow w.heap.size 45 2 (.slice none 0 0) 0 [] := World.ownsRow_nil _ _ _ _
        have ag : (Value.slice none 0 0).ownBlock ≠ some b := by simp [Value.ownBlock]
        go_wp2_with fail
        go_region_held3 (fun w' => w'.cell? ⟨b, off + k, none⟩ = some (.int .i64 x))
          (first
            | go_keep
            | (rw [hgrow.cell_far _ (by simp; omega) (Ne.symm ag)]; assumption))
          ((refine step_append_lies _ (by rfl) _ _ _ (by rfl) w.heap.size 45 i0 _ 2 16 Try.underlying24 hi0 hz0 hz1 hz2 rfl (by omega) (.slice none 0 0) 0 [] (by rfl) ((hown.alloc _).drew)
              ⟨wd.heap.size, 0, none⟩ 1 1 [.int .i64 x, .int .i64 (x + 1)] (by rfl) (by rfl) (World.news_of_block (cs := #[.int .i64 x, .int .i64 (x + 1)]) (t := 45) (fr := (0, 0)) (heap_alloc_new wd _)) (by simp [Value.oneCell'])
              (by omega) (by unfold maxLen; omega) (by omega) (by simp; omega) (wd.heap.size + 1) (by simp) ?_; intro gg cap2 w1 hown1 hgrow hat hlt9))
        have HOW2 := Lib.hid (show OwnP w.heap.size w1 (.slice (some ⟨gg, 0, none⟩) (0 + 1) cap2) [(x, x + 1)] from hown1)
        have HB2 := Lib.hid (show Below w.heap.size w w1 from by first | exact (bpush HBd.out _).grown hgrow (by simp; omega) (fun j e => by cases e) | exact (below_drewN (bpush HBd.out _) _).grown hgrow (by simp; omega) (fun j e => by cases e))
        clear hown1 hgrow hat hlt9
        go_wp2
        go_roundw
        case rel => exact ⟨k + 1, _, by omega, by go_num, HST2, HNIL2.out _, HOW2, HB2⟩
        case measure => simp [intOf]; omega
      · obtain ⟨g, cap, rfl, hcap, hg, hrow, hfz, hcell⟩ := ownP_row HOW.out (by simp)
        have hc := (hcell M.length (by simp)).2
        rw [List.getElem_append_right (Nat.le_refl _)] at hc
        have hown := HOW.out
        simp only [List.length_append, List.length_cons, List.length_nil, Nat.zero_add, Nat.sub_self, List.getElem_cons_zero] at hc hcap ⊢
        obtain ⟨m, hmM⟩ : ∃ m, M.length = m := ⟨_, rfl⟩
        unfold OwnP at hown
        simp only [List.length_append, List.length_cons, List.length_nil, Nat.zero_add, hmM] at hown hlen
        rw [hmM] at hc hcap ⊢
        have hf := hfz (m * 2 + 1)
        have hs : IntKind.i64.wrap (((m + 1 : Nat) : Int) - 1) = (m : Int) := by rw [IntWalk.i64_in _ (by omega)]; omega
        have hs2 : ((m + 1 : Nat) : Int) - 1 = (m : Int) := by omega
        have HMM := Lib.hid hmM
        have hgb : g ≠ b := by omega
        clear hA hrow hfz hcell hmM
        subst hA'
        go_wp2_with fail
        go_quiet (fail)
        obtain ⟨wd, hwd⟩ : ∃ wd, wd = wr.drewN nq := ⟨_, rfl⟩
        have HBd := Lib.hid (show Below w.heap.size w wd by rw [hwd]; exact below_drewN HB.out _)
        have c0d : wd.cell? ⟨b, off + k, none⟩ = some (.int .i64 x) := by rw [hwd]; exact c0
        have hcd : wd.cell? ⟨g, m * 2 + 1, none⟩ = some (.int .i64 x) := by rw [hwd]; exact hc
        have hfd : wd.frozen? ⟨g, m * 2 + 1, none⟩ = false := by rw [hwd]; exact hf
        have HOW2 := Lib.hid (show OwnP w.heap.size (wd.setCell ⟨g, m * 2 + 1, none⟩ (.int .i64 (x + 1))) (.slice (some ⟨g, 0, none⟩) (m + 1) cap) (M ++ [(p, x + 1)]) by
          have hownd : wd.ownsRow w.heap.size 45 2 (.slice (some ⟨g, 0, none⟩) (m + 1) cap) (m + 1) (cellsP (M ++ [(p, x)])) := by rw [hwd]; exact hown
          have h := own_change (k := m * 2 + 1) hownd (.int .i64 (x + 1))
          rw [← HMM.out, cellsP_set] at h
          unfold OwnP
          simp only [List.length_append, List.length_cons, List.length_nil, Nat.zero_add, ← HMM.out]
          exact h)
        have HB2 := Lib.hid (show Below w.heap.size w (wd.setCell ⟨g, m * 2 + 1, none⟩ (.int .i64 (x + 1))) from HBd.out.setCell (p := ⟨g, m * 2 + 1, none⟩) hg _)
        rw [← hwd]
        clear hwd c0 hc hf HB hown
        go_wp2_with fail
        go_roundw
        case rel => exact ⟨k + 1, _, by omega, by go_num, HST2, HNIL2.out _, HOW2, HB2⟩
        case measure => simp [intOf]; omega
      · obtain ⟨g, cap, rfl, hcap, hg, hrow, hfz, hcell⟩ := ownP_row HOW.out (by simp)
        have hc := (hcell M.length (by simp)).2
        rw [List.getElem_append_right (Nat.le_refl _)] at hc
        have hown := HOW.out
        simp only [List.length_append, List.length_cons, List.length_nil, Nat.zero_add, Nat.sub_self, List.getElem_cons_zero] at hc hcap ⊢
        obtain ⟨m, hmM⟩ : ∃ m, M.length = m := ⟨_, rfl⟩
        unfold OwnP at hown
        simp only [List.length_append, List.length_cons, List.length_nil, Nat.zero_add, hmM] at hown hlen
        rw [hmM] at hc hcap ⊢
        have hs : IntKind.i64.wrap (((m + 1 : Nat) : Int) - 1) = (m : Int) := by rw [IntWalk.i64_in _ (by omega)]; omega
        have hs2 : ((m + 1 : Nat) : Int) - 1 = (m : Int) := by omega
        have HMM := Lib.hid hmM
        have hne : (t == x) = false := by simp; omega
        have ag : (Value.slice (some ⟨g, 0, none⟩) (m + 1) cap).ownBlock ≠ some b := by simp [Value.ownBlock]; omega
        clear hA hrow hfz hcell hmM htx
        subst hA'
        go_wp2_with fail
        go_quiet (fail)
        obtain ⟨wd, hwd⟩ : ∃ wd, wd = wr.drewN nq := ⟨_, rfl⟩
        have HBd := Lib.hid (show Below w.heap.size w wd by rw [hwd]; exact below_drewN HB.out _)
        have c0d : wd.cell? ⟨b, off + k, none⟩ = some (.int .i64 x) := by rw [hwd]; exact c0
        have hownd : wd.ownsRow w.heap.size 45 2 (.slice (some ⟨g, 0, none⟩) (m + 1) cap) (m + 1) (cellsP (M ++ [(p, t)])) := by rw [hwd]; exact hown
        rw [← hwd]
        clear hwd c0 hc HB hown
        have hown := hownd
        clear hownd
        have hszd : w.heap.size ≤ wd.heap.size := HBd.out.size
        go_wp2_with fail
        go_region_held3 (fun w' => w'.cell? ⟨b, off + k, none⟩ = some (.int .i64 x))
          (first
            | go_keep
            | (rw [hgrow.cell_far _ (by simp; omega) (Ne.symm ag)]; assumption))
          ((refine step_append_lies _ (by rfl) _ _ _ (by rfl) w.heap.size 45 i0 _ 2 16 Try.underlying24 hi0 hz0 hz1 hz2 rfl (by omega) (.slice (some ⟨g, 0, none⟩) (m + 1) cap) (m + 1) _ (by rfl) ((hown.alloc _).drew)
              ⟨wd.heap.size, 0, none⟩ 1 1 [.int .i64 x, .int .i64 (x + 1)] (by rfl) (by rfl) (World.news_of_block (cs := #[.int .i64 x, .int .i64 (x + 1)]) (t := 45) (fr := (0, 0)) (heap_alloc_new wd _)) (by simp [Value.oneCell'])
              (by omega) (by unfold maxLen; omega) (by omega) (by simp; omega) (wd.heap.size + 1) (by simp) ?_; intro gg cap2 w1 hown1 hgrow hat hlt9))
        have HOW2 := Lib.hid (show OwnP w.heap.size w1 (.slice (some ⟨gg, 0, none⟩) (m + 1 + 1) cap2) (M ++ [(p, t)] ++ [(x, x + 1)]) by
          unfold OwnP; rw [cellsP_app]; simp only [List.length_append, List.length_cons, List.length_nil, HMM.out]; exact hown1)
        have HB2 := Lib.hid (show Below w.heap.size w w1 from by first | exact (bpush HBd.out _).grown hgrow (by simp; omega) (fun j e => by cases e; exact hg) | exact (below_drewN (bpush HBd.out _) _).grown hgrow (by simp; omega) (fun j e => by cases e; exact hg))
        clear hown1 hgrow hat hlt9
        go_wp2
        go_roundw
        case rel => exact ⟨k + 1, _, by omega, by go_num, HST2, HNIL2.out _, HOW2, HB2⟩
        case measure => simp [intOf]; omega
    · have HF := Lib.hid (show z.take k = z from List.take_of_length_le (by have := HZL.out; omega))
      have hk1 : ¬ (k : Int) < (n : Int) := by omega
      obtain ⟨A3, c3, hs3, hr3, hl3⟩ := own_slice HOW.out
      clear hA
      subst hs3
      go_wp2_with fail
      go_ret
      exact ⟨L, _, _, rfl, hr3, HST.out.1, fun x => by rw [HST.out.2.1, HF.out], HB.out⟩
end Go.Proofs.Ytohdkidfhohmlaa
