/- begin; a new one; what is left; the fuse is set. -/
import Derived.Test.YthogafecplhckaaDoorVD
namespace Go.Proofs.YthogafecplhckaaDoor
open Go.RowKit Go.Maps
set_option linter.unusedSimpArgs false
set_option linter.unusedVariables false
theorem act_b (V : VZ) : (actZ V).b = V.b := by unfold actZ; split <;> rfl
theorem act_F (V : VZ) : (actZ V).F = V.F := by unfold actZ; split <;> rfl
theorem act_room (V : VZ) : (actZ V).room = V.room := by unfold actZ; split <;> rfl
def BeginPost (w : World) (a : Nat) (V : VZ) (s : ByteArray) (e : Ending) (w' : World) : Prop :=
  (lookF V.F s = none ∧ e = .returned (.tuple #[.agg #[.slice none 0 0, .int .i64 0], .int .i64 31]) ∧ Below w.heap.size w w') ∨
  (∃ f, lookF V.F s = some f ∧ e = .returned (.tuple #[f.val, .int .i64 (errZ V)]) ∧ VCore w' a (actZ V) ∧ Fr (fun i => i = a) w w')
set_option maxRecDepth 100000 in
set_option maxHeartbeats 8000000 in
theorem begin_any (a : Nat) (V : VZ) (s : ByteArray) (w : World) (h : VCore w a V) (hs : s.size ≤ 9223372036854775807) :
    Calls Tryd.prog 67 #[.pointer (some ⟨a, 0, none⟩), .string s] w (BeginPost w a V s) := by
  obtain ⟨w1, hw1⟩ : ∃ w1, w1 = w.alloc (.cells #[.slice none 0 0, .int .i64 0] 70) := ⟨_, rfl⟩
  have hb1 : Below w.heap.size w w1 := by rw [hw1]; exact bpush (Below.refl _ _) _
  have h1 := h.below hb1
  have hk4 : Blk w1 w.heap.size 70 #[.slice none 0 0, .int .i64 0] := by rw [hw1]; exact Blk.new _ _ _
  have hz1 : w1.heap.size = w.heap.size + 1 := by rw [hw1]; simp
  have hlook : (Instr.lookup 64 (.map (some V.b)) (.string s) true).run Tryd.prog w1 = .ok (.tuple #[(lkF V.F s).val, .bool (lookF V.F s).isSome]) w1 := (look_run h1 s hs 0).2
  have HW1 := Lib.hid hw1
  have HB1 := Lib.hid hb1
  have HH1 := Lib.hid h1
  have HK4 := Lib.hid hk4
  have HZ1 := Lib.hid hz1
  have c2 := h1.blk.cell 2
  simp at c2
  have hla := h.la
  have HLA := Lib.hid hla
  have HH := Lib.hid h
  cases hl : lookF V.F s with
  | none =>
    have hlk : lkF V.F s = ⟨s, none, 0, 0, 0, []⟩ := by unfold lkF; rw [hl]; rfl
    have HL := Lib.hid hl
    rw [hl, hlk] at hlook
    simp only [FZ.val, Option.isSome_none] at hlook
    have hlook2 : (Instr.lookup 64 (.map (some V.b)) (.string s) true).run Tryd.prog w1 = .ok (.tuple #[.agg #[.slice none 0 0, .int .i64 0], .bool false]) w1 := hlook
    clear hlook hl hlk hw1 hb1 h1 hk4 hz1 h hla
    go_enter Tryd.func67, Tryd.ntmps67
    go_upto_region 1 with fail
    rw [← HW1.out]
    go_upto_region 2 with fail
    obtain ⟨w2, hw2⟩ : ∃ w2, w2 = w1.alloc (.cells #[.slice none 0 0, .int .i64 0] 70) := ⟨_, rfl⟩
    have hb2 : Below w1.heap.size w1 w2 := by rw [hw2]; exact bpush (Below.refl _ _) _
    have HK4' := Lib.hid (HK4.out.below hb2 HK4.out.lt)
    have HB2 := Lib.hid (bthen HB1.out hb2)
    rw [← hw2]
    obtain ⟨w3, hw3⟩ : ∃ w3, w3 = (w2.setCell ⟨w.heap.size, 0, none⟩ (.slice none 0 0)).setCell ⟨w.heap.size, 1, none⟩ (.int .i64 0) := ⟨_, rfl⟩
    have HK43 := Lib.hid (show Blk w3 w.heap.size 70 #[.slice none 0 0, .int .i64 0] by rw [hw3]; exact (HK4'.out.set_ 0 _).set_ 1 _)
    have HB3 := Lib.hid (show Below w.heap.size w w3 by rw [hw3]; exact bset (bset HB2.out (Nat.le_refl _) _) (Nat.le_refl _) _)
    have z0 := HK4'.out.cell 0
    have z1 := HK4'.out.cell 1
    have f0 := HK4'.out.frozen 0
    have f1 := HK4'.out.frozen 1
    simp at z0 z1
    have HW3 := Lib.hid hw3
    clear hw2 hw3 hb2 hlook2 c2
    go_wp2_with fail
    rw [← HW3.out]
    have q0 := HK43.out.cell 0
    have q1 := HK43.out.cell 1
    simp at q0 q1
    refine bodyPost_ret (v := .tuple #[.agg #[.slice none 0 0, .int .i64 0], .int .i64 31]) (by simp [results, Tryd.results67, go_sem, q0, q1]) rfl (Or.inl ⟨HL.out, rfl, HB3.out⟩)
  | some f =>
    have hlk : lkF V.F s = f := by unfold lkF; rw [hl]; rfl
    have HL := Lib.hid hl
    rw [hl, hlk] at hlook
    simp only [FZ.val, Option.isSome_some] at hlook
    obtain ⟨nm, fA, fn, fc, fs, fb⟩ := f
    simp only at hlook
    clear hl hlk hw1 hb1 h1 hk4 hz1 h hla
    go_enter Tryd.func67, Tryd.ntmps67
    go_upto_region 1 with fail
    rw [← HW1.out]
    go_upto_region 2 with fail
    go_upto_region 4 with fail
    obtain ⟨w2, hw2⟩ : ∃ w2, w2 = w1.alloc (.cells #[.slice fA fn fc, .int .i64 fs] 70) := ⟨_, rfl⟩
    have hb2 : Below w1.heap.size w1 w2 := by rw [hw2]; exact bpush (Below.refl _ _) _
    have HK6 := Lib.hid (show Blk w2 w1.heap.size 70 #[.slice fA fn fc, .int .i64 fs] by rw [hw2]; exact Blk.new _ _ _)
    have HK4' := Lib.hid (HK4.out.below hb2 HK4.out.lt)
    have HH2 := Lib.hid (HH1.out.below hb2)
    have HB2 := Lib.hid (bthen HB1.out hb2)
    rw [← hw2]
    obtain ⟨g6, hg6⟩ : ∃ g6, g6 = w1.heap.size := ⟨_, rfl⟩
    rw [← hg6] at HK6 HZ1 ⊢
    clear hw2 hb2 hg6 hlook c2 HH1 HK4
    obtain ⟨wd, hwd⟩ : ∃ wd, wd = w2.drew := ⟨_, rfl⟩
    have hbd : Below w2.heap.size w2 wd := by rw [hwd]; exact below_drewN (Below.refl _ _) 1
    have hs0 : (fun w' => Blk w' g6 70 #[.slice fA fn fc, .int .i64 fs]) wd := HK6.out.below hbd HK6.out.lt
    have HHd := Lib.hid (HH2.out.below hbd)
    have HK4d := Lib.hid (HK4'.out.below hbd HK4'.out.lt)
    have HBd := Lib.hid (bthen HB2.out hbd)
    rw [hwd] at hs0
    refine wp_region_held_drew (S := fun w' => Blk w' g6 70 #[.slice fA fn fc, .int .i64 fs]) (by kernel_rfl) hs0 ?_
    intro hHeld
    rw [← hwd] at hHeld ⊢
    clear hwd hbd hs0 HH2 HK4'
    refine take_want (i := 0) (v := ?v0z) rfl (by kernel_rfl) (by kernel_rfl) (by kernel_rfl) (fun _ _ _ h => h) (by rfl) ?y0z (by assumption) ?r0z
    case y0z => (intro w hSw; have r0 := hSw.cell 0; have r1 := hSw.cell 1; simp at r0 r1; go_simp; all_goals with_reducible rfl)
    (try simp only [Act.put, List.setIfInBounds_toArray, List.set_cons_zero, List.set_cons_succ])
    refine take_want (i := 1) (v := ?v1z) rfl (by kernel_rfl) (by kernel_rfl) (by kernel_rfl) (fun _ _ _ h => h) (by rfl) ?y1z (by assumption) ?r1z
    case y1z => (intro w hSw; go_simp; all_goals with_reducible rfl)
    (try simp only [Act.put, List.setIfInBounds_toArray, List.set_cons_zero, List.set_cons_succ])
    refine wpAnyH_ready (rs := [2]) (by kernel_rfl) (by simp) ?_
    refine AllReadyH.cons rfl (fun K hK => ?_) AllReadyH.nil
    go_simp
    (go_at_call 27; refine (act_any a V _ HHd.out).mono ?_; rintro e V2 ⟨rfl, hv2, hf2⟩)
    have hs2 : Blk V2 g6 70 #[.slice fA fn fc, .int .i64 fs] := (hf2.block g6 hHeld.lt (fun e => by have := HLA.out; have := HZ1.out; omega)).trans hHeld
    have HV2 := Lib.hid hv2
    have HF2 := Lib.hid hf2
    have HK42 := Lib.hid (show Blk V2 w.heap.size 70 #[.slice none 0 0, .int .i64 0] from (hf2.block w.heap.size HK4d.out.lt (fun e => by have := HLA.out; omega)).trans HK4d.out)
    refine hK.out _ _ hs2 (fun hHeld => ?_)
    clear hK K
    (try simp only [Act.put, List.setIfInBounds_toArray, List.set_cons_zero, List.set_cons_succ])
    clear hv2 hf2 hs2 HHd HK4d
    have z0 := HK42.out.cell 0
    have z1 := HK42.out.cell 1
    have f0 := HK42.out.frozen 0
    have f1 := HK42.out.frozen 1
    simp at z0 z1
    obtain ⟨w3, hw3⟩ : ∃ w3, w3 = (V2.setCell ⟨w.heap.size, 0, none⟩ (.slice fA fn fc)).setCell ⟨w.heap.size, 1, none⟩ (.int .i64 fs) := ⟨_, rfl⟩
    have hne6 : g6 ≠ w.heap.size := by have := HZ1.out; omega
    have hs3 : Blk w3 g6 70 #[.slice fA fn fc, .int .i64 fs] := by rw [hw3]; exact (hHeld.far hne6 _).far hne6 _
    have HK43 := Lib.hid (show Blk w3 w.heap.size 70 #[.slice fA fn fc, .int .i64 fs] by rw [hw3]; exact (HK42.out.set_ 0 _).set_ 1 _)
    have hfr3 : Fr (fun i => i = w.heap.size) V2 w3 := by rw [hw3]; exact ((Fr.refl (fun i => i = w.heap.size) V2).set_ (.inl (show w.heap.size = w.heap.size from rfl)) _).set_ (.inl (show w.heap.size = w.heap.size from rfl)) _
    have HFR3 := Lib.hid hfr3
    have HW3 := Lib.hid hw3
    clear hw3 hfr3
    refine wpAnyH_ready (rs := [3]) (by kernel_rfl) (by simp) ?_
    refine AllReadyH.cons rfl (fun K hK => ?_) AllReadyH.nil
    go_simp
    rw [← HW3.out]
    refine hK.out _ _ hs3 (fun hHeld => ?_)
    clear hK K
    (try simp only [Act.put, List.setIfInBounds_toArray, List.set_cons_zero, List.set_cons_succ])
    clear z0 z1 f0 f1 hne6
    refine take_want (i := 4) (v := ?v4z) rfl (by kernel_rfl) (by kernel_rfl) (by kernel_rfl) (fun _ _ _ h => h) (by rfl) ?y4z (by assumption) ?r4z
    case y4z => (intro w hSw; go_simp; all_goals with_reducible rfl)
    (try simp only [Act.put, List.setIfInBounds_toArray, List.set_cons_zero, List.set_cons_succ])
    refine wpAnyH_done (by kernel_rfl) ?_ _
    go_wp2_with fail
    have q0 := HK43.out.cell 0
    have q1 := HK43.out.cell 1
    simp at q0 q1
    have hF : Fr (fun i => i = a) w w3 := by
      have h1 : Fr (fun i => i = a) w _ := Fr.of_below HBd.out
      have h2 := h1.trans HF2.out
      refine ⟨HFR3.out.os.trans h2.os, HFR3.out.tape.trans h2.tape, HFR3.out.output.trans h2.output, Nat.le_trans h2.size HFR3.out.size, fun i hi k => ?_⟩
      exact (HFR3.out.block i (Nat.lt_of_lt_of_le hi h2.size) (by omega)).trans (h2.block i hi k)
    have hva := HV2.out.fr HFR3.out (by have := HLA.out; omega) (by rw [act_b]; have := HH.out.lb; omega)
    refine bodyPost_ret (v := .tuple #[.agg #[.slice fA fn fc, .int .i64 fs], .int .i64 (errZ V)]) (by simp [results, Tryd.results67, go_sem, q0, q1]) rfl (Or.inr ⟨⟨nm, fA, fn, fc, fs, fb⟩, HL.out, rfl, hva, hF⟩)
end Go.Proofs.YthogafecplhckaaDoor
