/- New (14). -/
import Derived.Test.YtmmeekmiildliaaGreatDoorIF
import Derived.Test.YtmmeekmiildliaaGreatDoorIH
import Derived.Carry
namespace Go.Proofs.YtmmeekmiildliaaGreatDoor
open Go.RowKit
set_option linter.unusedSimpArgs false
set_option linter.unusedVariables false
def newE (L M : List ByteArray) (g x : Int) : Prop := (¬ rightP L M ∧ x = 101) ∨ (rightP L M ∧ ¬ okGran g ∧ x = 111) ∨ (rightP L M ∧ okGran g ∧ x = 0)
theorem newE_ex (L M : List ByteArray) (g : Int) : ∃ x, newE L M g x := by
  by_cases h : rightP L M
  · by_cases k : okGran g
    · exact ⟨0, .inr (.inr ⟨h, k, rfl⟩)⟩
    · exact ⟨111, .inr (.inl ⟨h, k, rfl⟩)⟩
  · exact ⟨101, .inl ⟨h, rfl⟩⟩
def NewPost (w : World) (g : Int) (L M : List ByteArray) (x : Int) (e : Ending) (w' : World) : Prop :=
  ((x ≠ 0 ∧ e = .returned (.tuple #[.pointer none, .int .i64 x])) ∨ (x = 0 ∧ ∃ bx mb, e = .returned (.tuple #[.pointer (some ⟨bx, 0, none⟩), .int .i64 0]) ∧ Ix w' w.heap.size bx mb g L M [] 0)) ∧ Below w.heap.size w w'
set_option maxRecDepth 100000 in
set_option maxHeartbeats 16000000 in
theorem new_any (A E : Option Addr) (n c m d : Nat) (g : Int) (L M : List ByteArray) (w : World) (hA : Row w A (texts L)) (hB : Row w E (texts M)) (hn : n = L.length) (hm : m = M.length) (hnc : n ≤ c) (hmd : m ≤ d) (ha : A = none → c = 0) (hb : E = none → d = 0)
    (hL : ∀ s ∈ L, s.size ≤ 9223372036854775807) (hM : ∀ s ∈ M, s.size ≤ 9223372036854775807) (hn2 : n ≤ 1000000) (hm2 : m ≤ 1000000) (x : Int) (hx : newE L M g x) :
    Calls Tryz.prog 14 #[.agg #[.slice A n c, .slice E m d], .int .i64 g] w (NewPost w g L M x) := by
  obtain ⟨r, hr⟩ := bool_of (rightP L M)
  obtain ⟨W0, hW0⟩ : ∃ W0, W0 = w.alloc (.cells #[.slice A n c, .slice E m d] 24) := ⟨_, rfl⟩
  have hb0 : Below w.heap.size w W0 := by rw [hW0]; exact bpush (Below.refl _ _) _
  have HRT := Lib.hid (sright_any A E n c m d L M W0 (hA.keep (Nat.le_refl _) hb0) (hB.keep (Nat.le_refl _) hb0) hn hm hnc hmd ha hb hL hM (by omega) (by omega) r hr)
  have HCA := Lib.hid (fun W (hW : Below w.heap.size w W) => cloneT_any A n c (texts L) W (hA.keep (Nat.le_refl _) hW) (by simp [texts, hn]) (one_texts _) hnc ha (by omega))
  have HCB := Lib.hid (fun W (hW : Below w.heap.size w W) => cloneT_any E m d (texts M) W (hB.keep (Nat.le_refl _) hW) (by simp [texts, hm]) (one_texts _) hmd hb (by omega))
  have HR := Lib.hid hr
  have HX := Lib.hid hx
  have HW0 := Lib.hid hW0
  have HB0 := Lib.hid hb0
  have s0 : W0.cell? ⟨w.heap.size, 0, none⟩ = some (.slice A n c) := by rw [hW0]; exact cell_made rfl rfl
  have s1 : W0.cell? ⟨w.heap.size, 1, none⟩ = some (.slice E m d) := by rw [hW0]; exact cell_made rfl rfl
  clear hA hB hn hm hnc hmd ha hb hL hM hr hx hW0 hb0
  go_enter Tryz.func14, Tryz.ntmps14
  go_upto_region 1 with fail
  rw [← HW0.out]
  cases r with
  | false =>
    have hnr : ¬ rightP L M := fun h => by have := HR.out.2 h; cases this
    have hx1 : x = 101 := by rcases HX.out with ⟨_, h⟩ | ⟨h, _⟩ | ⟨h, _⟩; exact h; exact absurd h hnr; exact absurd h hnr
    have HX1 := Lib.hid hx1
    clear hx1 hnr HX HR
    go_wp2_with (go_at_call 34; refine HRT.out.mono ?_; rintro e w1 ⟨rfl, hb⟩; have HBB := Lib.hid hb; clear hb)
    refine bodyPost_ret (v := .tuple #[.pointer none, .int .i64 101]) (by simp [results, Tryz.results14, go_sem]) rfl ?_
    exact ⟨.inl ⟨by rw [HX1.out]; decide, by rw [HX1.out]⟩, bthen HB0.out HBB.out⟩
  | true =>
    have HRP := Lib.hid (HR.out.1 rfl)
    by_cases hg : okGran g
    case neg =>
      have hx1 : x = 111 := by rcases HX.out with ⟨h, _⟩ | ⟨_, _, h⟩ | ⟨_, h, _⟩; exact absurd HRP.out h; exact h; exact absurd h hg
      have HX1 := Lib.hid hx1
      have HGR := Lib.hid (fun W => right_no g W hg)
      clear hx1 HX HR hg
      go_wp2_with (first | (go_at_call 34; refine HRT.out.mono ?_; rintro e w1 ⟨rfl, hb⟩; have HBB := Lib.hid hb; clear hb) | (go_at_call 35; refine (HGR.out _).mono ?_; rintro e w1 ⟨rfl, rfl⟩))
      refine bodyPost_ret (v := .tuple #[.pointer none, .int .i64 111]) (by simp [results, Tryz.results14, go_sem]) rfl ?_
      exact ⟨.inl ⟨by rw [HX1.out]; decide, by rw [HX1.out]⟩, bthen HB0.out HBB.out⟩
    case pos =>
    have hx1 : x = 0 := by rcases HX.out with ⟨h, _⟩ | ⟨_, h, _⟩ | ⟨_, _, h⟩; exact absurd HRP.out h; exact absurd hg h; exact h
    have HX1 := Lib.hid hx1
    have HGR := Lib.hid (fun W => right_yes g W hg)
    have HG := Lib.hid hg
    clear hx1 HX HR hg
    go_upto_region 5 with (first | (go_at_call 34; refine HRT.out.mono ?_; rintro e w1 ⟨rfl, hb⟩; have HBB := Lib.hid hb; clear hb) | (go_at_call 35; refine (HGR.out _).mono ?_; rintro e w1 ⟨rfl, rfl⟩))
    obtain ⟨W1, hW1⟩ : ∃ W, W = w1 := ⟨_, rfl⟩
    subst hW1
    have HB1 := Lib.hid (bthen HB0.out HBB.out)
    have HCEL := Lib.hid (fun W (hW : Below W1.heap.size W1 W) => show W.cell? ⟨w.heap.size, 0, none⟩ = some (.slice A n c) ∧ W.cell? ⟨w.heap.size, 1, none⟩ = some (.slice E m d) from ⟨cell_on hW (cell_on HBB.out s0), cell_on hW (cell_on HBB.out s1)⟩)
    clear s0 s1 HRT HBB HGR
    go_cut [6] (fun s6 wx => ∃ (g : Nat) (D1 : Option Addr) (k1 : Nat) (D2 : Option Addr) (k2 : Nat), s6 = .pointer (some ⟨g, 0, none⟩) ∧ Hid (Blk wx g 24 #[.slice D1 n k1, .slice D2 m k2]) ∧ Hid (wx.ownsRow w.heap.size 9 1 (.slice D1 n k1) n (texts L)) ∧ Hid (wx.ownsRow w.heap.size 9 1 (.slice D2 m k2) m (texts M)) ∧ Hid (Below W1.heap.size W1 wx))
    case first =>
      have hb9 : Below W1.heap.size W1 W1.drew := below_drewN (Below.refl _ _) 1
      refine wp_region_held_drew (S := fun W => (W.cell? ⟨w.heap.size, 0, none⟩ = some (.slice A n c) ∧ W.cell? ⟨w.heap.size, 1, none⟩ = some (.slice E m d)) ∧ Below W1.heap.size W1 W) (by kernel_rfl) (⟨HCEL.out _ hb9, hb9⟩) ?_
      intro hHeld
      refine take_want (i := 0) (v := ?v0k1) rfl (by kernel_rfl) (by kernel_rfl) (by kernel_rfl) (fun _ _ _ h => h) (by rfl) ?y0k1 (by assumption) ?r0k1
      case y0k1 => (intro w hSw; go_simp; all_goals with_reducible rfl)
      (try simp only [Act.put, List.setIfInBounds_toArray, List.set_cons_zero, List.set_cons_succ])
      refine take_want (i := 1) (v := ?v1k1) rfl (by kernel_rfl) (by kernel_rfl) (by kernel_rfl) (fun _ _ _ h => h) (by rfl) ?y1k1 (by assumption) ?r1k1
      case y1k1 => (intro w hSw; have q := HCEL.out _ hSw.2; obtain ⟨q0, q1⟩ := q; go_simp; all_goals with_reducible rfl)
      (try simp only [Act.put, List.setIfInBounds_toArray, List.set_cons_zero, List.set_cons_succ])
      refine take_want (i := 3) (v := ?v3k1) rfl (by kernel_rfl) (by kernel_rfl) (by kernel_rfl) (fun _ _ _ h => h) (by rfl) ?y3k1 (by assumption) ?r3k1
      case y3k1 => (intro w hSw; go_simp; all_goals with_reducible rfl)
      (try simp only [Act.put, List.setIfInBounds_toArray, List.set_cons_zero, List.set_cons_succ])
      refine take_want (i := 4) (v := ?v4k1) rfl (by kernel_rfl) (by kernel_rfl) (by kernel_rfl) (fun _ _ _ h => h) (by rfl) ?y4k1 (by assumption) ?r4k1
      case y4k1 => (intro w hSw; have q := HCEL.out _ hSw.2; obtain ⟨q0, q1⟩ := q; go_simp; all_goals with_reducible rfl)
      (try simp only [Act.put, List.setIfInBounds_toArray, List.set_cons_zero, List.set_cons_succ])
      refine wpAnyH_ready (rs := [2, 7]) (by kernel_rfl) (by simp) ?_
      refine AllReadyH.cons rfl (fun K hK => ?_) (AllReadyH.cons rfl (fun K hK => ?_) AllReadyH.nil)
      · go_simp
        (go_at_call 36; refine (HCA.out _ (bthen HB1.out hHeld.2)).mono ?_; rintro e w8 ⟨D1, k1, rfl, ho, hb⟩)
        have hk := bthen hHeld.2 hb
        refine hK.out _ _ (⟨HCEL.out _ hk, hk⟩) (fun hHeld => ?_)
        clear hK K
        (try simp only [Act.put, List.setIfInBounds_toArray, List.set_cons_zero, List.set_cons_succ])
        refine wpAnyH_ready (rs := [5, 7]) (by kernel_rfl) (by simp) ?_
        refine AllReadyH.cons rfl (fun K hK => ?_) (AllReadyH.cons rfl (fun K hK => ?_) AllReadyH.nil)
        · go_simp
          (go_at_call 36; refine (HCB.out _ (bthen HB1.out hHeld.2)).mono ?_; rintro e w9 ⟨D2, k2, rfl, ho2, hb2⟩)
          have hk := bthen hHeld.2 hb2
          refine hK.out _ _ (⟨HCEL.out _ hk, hk⟩) (fun hHeld => ?_)
          clear hK K
          (try simp only [Act.put, List.setIfInBounds_toArray, List.set_cons_zero, List.set_cons_succ])
          have ho := own_below ho hb2
          refine take_want (i := 6) (v := ?v6k3) rfl (by kernel_rfl) (by kernel_rfl) (by kernel_rfl) (fun _ _ _ h => h) (by rfl) ?y6k3 (by assumption) ?r6k3
          case y6k3 => (intro w hSw; go_simp; all_goals with_reducible rfl)
          (try simp only [Act.put, List.setIfInBounds_toArray, List.set_cons_zero, List.set_cons_succ])
          refine wpAnyH_ready (rs := [7]) (by kernel_rfl) (by simp) ?_
          refine AllReadyH.cons rfl (fun K hK => ?_) AllReadyH.nil
          have hge : W1.heap.size ≤ w9.heap.size := hHeld.2.size
          go_simp
          have hk := bpush hHeld.2 (.cells #[.slice none 0 0, .slice none 0 0] 24)
          refine hK.out _ _ (by first | exact ⟨HCEL.out _ hk, hk⟩ | (simp at hk ⊢; exact ⟨HCEL.out _ hk, hk⟩)) (fun hHeld => ?_)
          clear hK K
          (try simp only [Act.put, List.setIfInBounds_toArray, List.set_cons_zero, List.set_cons_succ])
          obtain ⟨wz, hwz⟩ : ∃ x, x = w9.alloc (.cells #[.slice none 0 0, .slice none 0 0] 24) := ⟨_, rfl⟩
          have hbz : Below w9.heap.size w9 wz := by rw [hwz]; first | exact bpush (Below.refl _ _) _ | exact below_drewN (bpush (Below.refl _ _) _) 1
          have hbx : Blk wz w9.heap.size 24 #[.slice none 0 0, .slice none 0 0] := by rw [hwz]; exact Blk.new w9 24 _
          have hzs : wz.heap.size = w9.heap.size + 1 := by rw [hwz]; simp
          rw [← hwz] at hHeld ⊢
          clear hwz hk
          have ho := own_below ho hbz
          have ho2 := own_below ho2 hbz
          have HBX := Lib.hid hbx
          have hz1 := HB1.out.size
          have hz2 : W1.drew.heap.size = W1.heap.size := rfl
          have hz3 := hb.size
          have hz4 := hb2.size
          have HO1 := Lib.hid (own_less ho (C := w.heap.size) (by omega))
          have HO2 := Lib.hid (own_less ho2 (C := w.heap.size) (by omega))
          clear hbx ho ho2
          have e0 := HBX.out.cell 0
          have e1 := HBX.out.cell 1
          simp at e0 e1
          have ef := HBX.out.frozen
          refine wpAnyH_ready (rs := [8]) (by kernel_rfl) (by simp) ?_
          refine AllReadyH.cons rfl (fun K hK => ?_) AllReadyH.nil
          go_simp
          have hBs := bset (bset hHeld.2 (o := 0) hge (.slice D1 n k1)) (o := 1) hge (.slice D2 m k2)
          refine hK.out _ _ (by first | exact ⟨HCEL.out _ hBs, hBs⟩ | (simp at hBs ⊢; exact ⟨HCEL.out _ hBs, hBs⟩)) (fun hHeld2 => ?_)
          clear hK K
          (try simp only [Act.put, List.setIfInBounds_toArray, List.set_cons_zero, List.set_cons_succ])
          refine wpAnyH_done (by kernel_rfl) ?_ _
          go_wp2_with fail
          go_meet
          have hbx2 := (HBX.out.set_ 0 (.slice D1 n k1)).set_ 1 (.slice D2 m k2)
          simp at hbx2
          exact ⟨w9.heap.size, D1, k1, D2, k2, rfl, Lib.hid hbx2, Lib.hid (own_set' (own_set' HO1.out (HO1.out.not_blk HBX.out (by decide))) ((own_set' (u := .slice D1 n k1) (o := 0) HO1.out (HO1.out.not_blk HBX.out (by decide))).not_blk (HBX.out.set_ 0 _) (by decide))), Lib.hid (own_set' (own_set' HO2.out (HO2.out.not_blk HBX.out (by decide))) ((own_set' (u := .slice D1 n k1) (o := 0) HO2.out (HO2.out.not_blk HBX.out (by decide))).not_blk (HBX.out.set_ 0 _) (by decide))), Lib.hid hHeld2.2⟩
        · have hge : W1.heap.size ≤ w8.heap.size := hHeld.2.size
          go_simp
          have hk := bpush hHeld.2 (.cells #[.slice none 0 0, .slice none 0 0] 24)
          refine hK.out _ _ (by first | exact ⟨HCEL.out _ hk, hk⟩ | (simp at hk ⊢; exact ⟨HCEL.out _ hk, hk⟩)) (fun hHeld => ?_)
          clear hK K
          (try simp only [Act.put, List.setIfInBounds_toArray, List.set_cons_zero, List.set_cons_succ])
          obtain ⟨wz, hwz⟩ : ∃ x, x = w8.alloc (.cells #[.slice none 0 0, .slice none 0 0] 24) := ⟨_, rfl⟩
          have hbz : Below w8.heap.size w8 wz := by rw [hwz]; first | exact bpush (Below.refl _ _) _ | exact below_drewN (bpush (Below.refl _ _) _) 1
          have hbx : Blk wz w8.heap.size 24 #[.slice none 0 0, .slice none 0 0] := by rw [hwz]; exact Blk.new w8 24 _
          have hzs : wz.heap.size = w8.heap.size + 1 := by rw [hwz]; simp
          rw [← hwz] at hHeld ⊢
          clear hwz hk
          refine wpAnyH_ready (rs := [5]) (by kernel_rfl) (by simp) ?_
          refine AllReadyH.cons rfl (fun K hK => ?_) AllReadyH.nil
          go_simp
          (go_at_call 36; refine (HCB.out _ (bthen HB1.out hHeld.2)).mono ?_; rintro e w9 ⟨D2, k2, rfl, ho2, hb2⟩)
          have hk := bthen hHeld.2 hb2
          refine hK.out _ _ (⟨HCEL.out _ hk, hk⟩) (fun hHeld => ?_)
          clear hK K
          (try simp only [Act.put, List.setIfInBounds_toArray, List.set_cons_zero, List.set_cons_succ])
          refine take_want (i := 6) (v := ?v6k4) rfl (by kernel_rfl) (by kernel_rfl) (by kernel_rfl) (fun _ _ _ h => h) (by rfl) ?y6k4 (by assumption) ?r6k4
          case y6k4 => (intro w hSw; go_simp; all_goals with_reducible rfl)
          (try simp only [Act.put, List.setIfInBounds_toArray, List.set_cons_zero, List.set_cons_succ])
          have hbx := hbx.grown (grown_none hb2) (by simp)
          have ho := own_below (own_below ho hbz) hb2
          have HBX := Lib.hid hbx
          have hz1 := HB1.out.size
          have hz2 : W1.drew.heap.size = W1.heap.size := rfl
          have hz3 := hb.size
          have hz4 := hb2.size
          have HO1 := Lib.hid (own_less ho (C := w.heap.size) (by omega))
          have HO2 := Lib.hid (own_less ho2 (C := w.heap.size) (by omega))
          clear hbx ho ho2
          have e0 := HBX.out.cell 0
          have e1 := HBX.out.cell 1
          simp at e0 e1
          have ef := HBX.out.frozen
          refine wpAnyH_ready (rs := [8]) (by kernel_rfl) (by simp) ?_
          refine AllReadyH.cons rfl (fun K hK => ?_) AllReadyH.nil
          go_simp
          have hBs := bset (bset hHeld.2 (o := 0) hge (.slice D1 n k1)) (o := 1) hge (.slice D2 m k2)
          refine hK.out _ _ (by first | exact ⟨HCEL.out _ hBs, hBs⟩ | (simp at hBs ⊢; exact ⟨HCEL.out _ hBs, hBs⟩)) (fun hHeld2 => ?_)
          clear hK K
          (try simp only [Act.put, List.setIfInBounds_toArray, List.set_cons_zero, List.set_cons_succ])
          refine wpAnyH_done (by kernel_rfl) ?_ _
          go_wp2_with fail
          go_meet
          have hbx2 := (HBX.out.set_ 0 (.slice D1 n k1)).set_ 1 (.slice D2 m k2)
          simp at hbx2
          exact ⟨w8.heap.size, D1, k1, D2, k2, rfl, Lib.hid hbx2, Lib.hid (own_set' (own_set' HO1.out (HO1.out.not_blk HBX.out (by decide))) ((own_set' (u := .slice D1 n k1) (o := 0) HO1.out (HO1.out.not_blk HBX.out (by decide))).not_blk (HBX.out.set_ 0 _) (by decide))), Lib.hid (own_set' (own_set' HO2.out (HO2.out.not_blk HBX.out (by decide))) ((own_set' (u := .slice D1 n k1) (o := 0) HO2.out (HO2.out.not_blk HBX.out (by decide))).not_blk (HBX.out.set_ 0 _) (by decide))), Lib.hid hHeld2.2⟩
      · have hge : W1.heap.size ≤ W1.heap.size := Nat.le_refl _
        go_simp
        have hk := bpush hHeld.2 (.cells #[.slice none 0 0, .slice none 0 0] 24)
        refine hK.out _ _ (by first | exact ⟨HCEL.out _ hk, hk⟩ | (simp at hk ⊢; exact ⟨HCEL.out _ hk, hk⟩)) (fun hHeld => ?_)
        clear hK K
        (try simp only [Act.put, List.setIfInBounds_toArray, List.set_cons_zero, List.set_cons_succ])
        obtain ⟨wz, hwz⟩ : ∃ x, x = (W1.alloc (.cells #[.slice none 0 0, .slice none 0 0] 24)).drew := ⟨_, rfl⟩
        have hbz : Below W1.heap.size W1 wz := by rw [hwz]; first | exact bpush (Below.refl _ _) _ | exact below_drewN (bpush (Below.refl _ _) _) 1
        have hbx : Blk wz W1.heap.size 24 #[.slice none 0 0, .slice none 0 0] := by rw [hwz]; exact Blk.new W1 24 _
        have hzs : wz.heap.size = W1.heap.size + 1 := by rw [hwz]; simp
        rw [← hwz] at hHeld ⊢
        clear hwz hk
        refine wpAnyH_ready (rs := [2]) (by kernel_rfl) (by simp) ?_
        refine AllReadyH.cons rfl (fun K hK => ?_) AllReadyH.nil
        go_simp
        (go_at_call 36; refine (HCA.out _ (bthen HB1.out hHeld.2)).mono ?_; rintro e w8 ⟨D1, k1, rfl, ho, hb⟩)
        have hk := bthen hHeld.2 hb
        refine hK.out _ _ (⟨HCEL.out _ hk, hk⟩) (fun hHeld => ?_)
        clear hK K
        (try simp only [Act.put, List.setIfInBounds_toArray, List.set_cons_zero, List.set_cons_succ])
        have hbx := hbx.grown (grown_none hb) (by simp)
        refine wpAnyH_ready (rs := [5]) (by kernel_rfl) (by simp) ?_
        refine AllReadyH.cons rfl (fun K hK => ?_) AllReadyH.nil
        go_simp
        (go_at_call 36; refine (HCB.out _ (bthen HB1.out hHeld.2)).mono ?_; rintro e w9 ⟨D2, k2, rfl, ho2, hb2⟩)
        have hk := bthen hHeld.2 hb2
        refine hK.out _ _ (⟨HCEL.out _ hk, hk⟩) (fun hHeld => ?_)
        clear hK K
        (try simp only [Act.put, List.setIfInBounds_toArray, List.set_cons_zero, List.set_cons_succ])
        refine take_want (i := 6) (v := ?v6k5) rfl (by kernel_rfl) (by kernel_rfl) (by kernel_rfl) (fun _ _ _ h => h) (by rfl) ?y6k5 (by assumption) ?r6k5
        case y6k5 => (intro w hSw; go_simp; all_goals with_reducible rfl)
        (try simp only [Act.put, List.setIfInBounds_toArray, List.set_cons_zero, List.set_cons_succ])
        have hbx := hbx.grown (grown_none hb2) (by simp)
        have ho := own_below ho hb2
        have HBX := Lib.hid hbx
        have hz1 := HB1.out.size
        have hz2 : W1.drew.heap.size = W1.heap.size := rfl
        have hz3 := hb.size
        have hz4 := hb2.size
        have HO1 := Lib.hid (own_less ho (C := w.heap.size) (by omega))
        have HO2 := Lib.hid (own_less ho2 (C := w.heap.size) (by omega))
        clear hbx ho ho2
        have e0 := HBX.out.cell 0
        have e1 := HBX.out.cell 1
        simp at e0 e1
        have ef := HBX.out.frozen
        refine wpAnyH_ready (rs := [8]) (by kernel_rfl) (by simp) ?_
        refine AllReadyH.cons rfl (fun K hK => ?_) AllReadyH.nil
        go_simp
        have hBs := bset (bset hHeld.2 (o := 0) hge (.slice D1 n k1)) (o := 1) hge (.slice D2 m k2)
        refine hK.out _ _ (by first | exact ⟨HCEL.out _ hBs, hBs⟩ | (simp at hBs ⊢; exact ⟨HCEL.out _ hBs, hBs⟩)) (fun hHeld2 => ?_)
        clear hK K
        (try simp only [Act.put, List.setIfInBounds_toArray, List.set_cons_zero, List.set_cons_succ])
        refine wpAnyH_done (by kernel_rfl) ?_ _
        go_wp2_with fail
        go_meet
        have hbx2 := (HBX.out.set_ 0 (.slice D1 n k1)).set_ 1 (.slice D2 m k2)
        simp at hbx2
        exact ⟨W1.heap.size, D1, k1, D2, k2, rfl, Lib.hid hbx2, Lib.hid (own_set' (own_set' HO1.out (HO1.out.not_blk HBX.out (by decide))) ((own_set' (u := .slice D1 n k1) (o := 0) HO1.out (HO1.out.not_blk HBX.out (by decide))).not_blk (HBX.out.set_ 0 _) (by decide))), Lib.hid (own_set' (own_set' HO2.out (HO2.out.not_blk HBX.out (by decide))) ((own_set' (u := .slice D1 n k1) (o := 0) HO2.out (HO2.out.not_blk HBX.out (by decide))).not_blk (HBX.out.set_ 0 _) (by decide))), Lib.hid hHeld2.2⟩
    case rest =>
      obtain ⟨gq, D1, k1, D2, k2, rfl, HBX, HO1, HO2, HBW⟩ := hcut
      obtain ⟨W2, hW2⟩ : ∃ W, W = wc := ⟨_, rfl⟩
      subst hW2
      have e0 := HBX.out.cell 0
      have e1 := HBX.out.cell 1
      simp at e0 e1
      go_wp2_with fail
      rw [run_makeMap 71 W2]
      simp only [Result.andThen]
      rw [Oper.upon_value]
      go_wp2_with fail
      obtain ⟨W3, hW3⟩ : ∃ W3, W3 = (W2.alloc (.map #[] 0)).alloc (.cells #[.slice D1 n k1, .slice D2 m k2, .int .i64 g, .map (some W2.heap.size), .int .i64 0] 73) := ⟨_, rfl⟩
      have hb3 : Below W2.heap.size W2 W3 := by rw [hW3]; exact bpush (bpush (Below.refl _ _) _) _
      have hk3 : Blk W3 (W2.heap.size + 1) 73 #[.slice D1 n k1, .slice D2 m k2, .int .i64 g, .map (some W2.heap.size), .int .i64 0] := by
        rw [hW3]; have := Blk.new (W2.alloc (.map #[] 0)) 73 #[.slice D1 n k1, .slice D2 m k2, .int .i64 g, .map (some W2.heap.size), .int .i64 0]; simpa using this
      have hm3 : W3.ownsMap (H := Value) Tryz.prog 9 RM W2.heap.size 0 (.map []) := by rw [hW3]; exact (World.ownsMap_made W2 Tryz.prog 9 RM).alloc _
      have hws : w.heap.size ≤ W2.heap.size := by have h1 := HB1.out.size; have h2 := HBW.out.size; omega
      have HIX := Lib.hid (show Ix W3 w.heap.size (W2.heap.size + 1) W2.heap.size g L M [] 0 from
        ⟨HRP.out, HG.out, ⟨D1, n, k1, D2, m, k2, hk3, own_below HO1.out hb3, own_below HO2.out hb3⟩, ⟨.map [], [], hm3, MapIs.nil, IxV.nil, fun z hz => absurd hz List.not_mem_nil⟩, fun a ha => absurd ha List.not_mem_nil, by omega, hws⟩)
      have HB3 := Lib.hid (bthen (bthen HB1.out HBW.out) hb3)
      first | rw [← hW3] | skip
      refine bodyPost_ret (v := .tuple #[.pointer (some ⟨W2.heap.size + 1, 0, none⟩), .int .i64 0]) (by simp [results, Tryz.results14, go_sem]) rfl ?_
      exact ⟨.inr ⟨HX1.out, _, _, rfl, HIX.out⟩, HB3.out⟩
end Go.Proofs.YtmmeekmiildliaaGreatDoor
