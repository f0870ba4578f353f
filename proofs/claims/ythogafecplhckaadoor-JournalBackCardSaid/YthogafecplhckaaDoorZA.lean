/- The document's reader: a number. -/
import Derived.Test.YthogafecplhckaaDoorGX
import Derived.Test.YthogafecplhckaaDoorGZ
import Derived.Deep.AppendLies
import Derived.Maps.AppendAt
namespace Go.Proofs.YthogafecplhckaaDoor
open Go.RowKit
set_option linter.unusedSimpArgs false
set_option linter.unusedVariables false
theorem grown_drewN (w : World) (n : Nat) (row : Option Nat) : w.grownBy (w.drewN n) row := ⟨rfl, rfl, rfl, Nat.le_refl _, fun _ _ _ => rfl⟩
theorem grown_set (w : World) (mb o : Nat) (v : Value) : w.grownBy (w.setCell ⟨mb, o, none⟩ v) (some mb) :=
  ⟨rfl, rfl, rfl, by simp [World.setCell], fun i hi hne => Below.heap_setCell w _ _ i (fun e => hne (by rw [e]))⟩
theorem Bx.setI {w : World} {mb : Nat} {V : Value} {I : Nat} {bad : Bool} (h : Bx w mb V I bad) (J : Nat) : Bx (w.setCell ⟨mb, 1, none⟩ (.int .i64 J)) mb V J bad := by
  obtain ⟨h0, h1, h2, h3⟩ := h
  refine ⟨?_, World.cell?_setCell_same' w _ _ (by rw [h1]; rfl), ?_, fun o => ⟨by rw [World.frozen?_setCell]; exact (h3 o).1, fun h => by rw [World.cell?_setCell_other w _ _ _ (fun e => by have := congrArg Addr.off e; simp at this; omega)]; exact (h3 o).2 h⟩⟩
  · rw [World.cell?_setCell_other w _ _ _ (fun e => by simpa using congrArg Addr.off e)]; exact h0
  · rw [World.cell?_setCell_other w _ _ _ (fun e => by simpa using congrArg Addr.off e)]; exact h2
theorem Bx.setBad {w : World} {mb : Nat} {V : Value} {I : Nat} {bad : Bool} (h : Bx w mb V I bad) : Bx (w.setCell ⟨mb, 2, none⟩ (.bool true)) mb V I true := by
  obtain ⟨h0, h1, h2, h3⟩ := h
  refine ⟨?_, ?_, World.cell?_setCell_same' w _ _ (by rw [h2]; rfl), fun o => ⟨by rw [World.frozen?_setCell]; exact (h3 o).1, fun h => by rw [World.cell?_setCell_other w _ _ _ (fun e => by have := congrArg Addr.off e; simp at this; omega)]; exact (h3 o).2 h⟩⟩
  · rw [World.cell?_setCell_other w _ _ _ (fun e => by simpa using congrArg Addr.off e)]; exact h0
  · rw [World.cell?_setCell_other w _ _ _ (fun e => by simpa using congrArg Addr.off e)]; exact h1
theorem Bx.drew {w : World} {mb : Nat} {V : Value} {I : Nat} {bad : Bool} (h : Bx w mb V I bad) (n : Nat) : Bx (w.drewN n) mb V I bad := by
  obtain ⟨h0, h1, h2, h3⟩ := h
  exact ⟨by simpa using h0, by simpa using h1, by simpa using h2, fun o => ⟨by simpa using (h3 o).1, fun h => by simpa using (h3 o).2 h⟩⟩
theorem Bx.grown {w w' : World} {mb : Nat} {V : Value} {I : Nat} {bad : Bool} {row : Option Nat} (h : Bx w mb V I bad) (hg : w.grownBy w' row) (hlt : mb < w.heap.size) (hne : some mb ≠ row) : Bx w' mb V I bad :=
  ⟨hg.cell h.1 hne, hg.cell h.2.1 hne, hg.cell h.2.2.1 hne, fun o => ⟨(hg.frozen_far _ hlt hne).trans (h.2.2.2 o).1, fun ho => (hg.cell_far _ hlt hne).trans ((h.2.2.2 o).2 ho)⟩⟩
/-- What a reading call leaves of the document's reader. -/
def RefPost (w : World) (mb : Nat) (V v : Value) (err : Int) (I : Nat) (bad : Bool) (e : Ending) (w' : World) : Prop :=
  e = .returned (.tuple #[v, .int .i64 err]) ∧ Bx w' mb V I bad ∧ w.grownBy w' (some mb)
theorem numP_U {cs : List Int} {v : Int} {l : Nat} (h : numP cs = (v, l)) : ∃ u : Nat, numU cs = (u, l) ∧ (u : Int) ≤ 18446744073709551615 ∧ v = unfoldZ u := by
  unfold numP at h
  unfold numU
  cases hn : numAux 0 0 cs with
  | none => rw [hn] at h; simp only [Prod.mk.injEq] at h; exact ⟨0, by simp; omega, by omega, by rw [← h.1]; rfl⟩
  | some p =>
    obtain ⟨u, k⟩ := p
    have := num_le cs 0 0 u k hn
    rw [hn] at h
    simp only [Prod.mk.injEq] at h
    exact ⟨u, by simp; omega, by omega, h.1.symm⟩
set_option maxRecDepth 100000 in
set_option maxHeartbeats 1000000 in
theorem refrint_bad (mb : Nat) (A : Option Addr) (n c I : Nat) (bad : Bool) (bs : List Int) (lo hi : Int) (w : World) (hB : Bx w mb (.slice A n c) I bad) (hA : Row w A (bs.map (Value.int .u8))) (hn : n ≤ 1000000) (hz : n = bs.length) (hI : I ≤ n) (hb : bytes bs) (v : Int) (l : Nat) (hp : numP (bs.drop I) = (v, l)) (hbad : l = 0 ∨ v < lo ∨ hi < v) :
    Calls Tryd.prog 79 #[.pointer (some ⟨mb, 0, none⟩), .int .i64 lo, .int .i64 hi] w (RefPost w mb (.slice A n c) (.int .i64 0) 11 I true) := by
  have HB' := Lib.hid hB
  have HZ := Lib.hid hz
  have HB := Lib.hid hb
  have HQ := Lib.hid (fun m => ⟨(hB.drew m).setBad, (grown_drewN w m _).trans (grown_set _ mb 2 _)⟩ : ∀ m, Bx ((w.drewN m).setCell ⟨mb, 2, none⟩ (.bool true)) mb (.slice A n c) I true ∧ w.grownBy ((w.drewN m).setCell ⟨mb, 2, none⟩ (.bool true)) (some mb))
  obtain ⟨u, hu, hu64, hv⟩ := numP_U hp
  have HU := Lib.hid hu
  have HV := Lib.hid hv
  obtain ⟨b0, b1, b2, b3⟩ := hB
  have hfz := (b3 2).1
  clear hz hb hp hu hv b3
  go_enter Tryd.func79, Tryd.ntmps79
  go_wp2_with fail
  refine (refnum_any mb A n c I bad bs w HB'.out hA hn HZ.out hI HB.out u l HU.out).mono ?_
  rintro e w1 ⟨rfl, m, rfl⟩
  go_wp2_with fail
  refine (runfold_any u _ (by omega) hu64).mono ?_
  rintro e w2 ⟨rfl, rfl⟩
  rw [← HV.out]
  by_cases hl : l = 0
  · subst hl
    go_wp2
    go_ret2
    exact ⟨rfl, HQ.out _⟩
  · have hl2 : ((l : Int) == 0) = false := by simp; omega
    have hl3 : decide ((l : Int) = 0) = false := by simp; omega
    by_cases h7 : v < lo
    · go_wp2
      go_ret2
      exact ⟨rfl, HQ.out _⟩
    · have h8 : hi < v := by omega
      go_wp2
      go_ret2
      exact ⟨rfl, HQ.out _⟩
set_option maxRecDepth 100000 in
set_option maxHeartbeats 1000000 in
theorem refrint_good (mb : Nat) (A : Option Addr) (n c I : Nat) (bad : Bool) (bs : List Int) (lo hi : Int) (w : World) (hB : Bx w mb (.slice A n c) I bad) (hA : Row w A (bs.map (Value.int .u8))) (hn : n ≤ 1000000) (hz : n = bs.length) (hI : I ≤ n) (hb : bytes bs) (v : Int) (l : Nat) (hp : numP (bs.drop I) = (v, l)) (hl : 0 < l) (hv1 : lo ≤ v) (hv2 : v ≤ hi) :
    Calls Tryd.prog 79 #[.pointer (some ⟨mb, 0, none⟩), .int .i64 lo, .int .i64 hi] w (RefPost w mb (.slice A n c) (.int .i64 v) 0 (I + l) bad) := by
  have HB' := Lib.hid hB
  have HZ := Lib.hid hz
  have HB := Lib.hid hb
  have hll : l ≤ n := by have := (numP_len hp).1; rw [List.length_drop] at this; omega
  have hsum : IntKind.i64.wrap ((I : Int) + (l : Int)) = ((I + l : Nat) : Int) := by rw [IntWalk.i64_in _ (by omega)]; omega
  obtain ⟨S, hS⟩ : ∃ S, S = I + l := ⟨_, rfl⟩
  rw [← hS] at hsum ⊢
  have HQ := Lib.hid (fun m => ⟨(hB.drew m).setI S, (grown_drewN w m _).trans (grown_set _ mb 1 _)⟩ : ∀ m, Bx ((w.drewN m).setCell ⟨mb, 1, none⟩ (.int .i64 S)) mb (.slice A n c) S bad ∧ w.grownBy ((w.drewN m).setCell ⟨mb, 1, none⟩ (.int .i64 S)) (some mb))
  obtain ⟨u, hu, hu64, hv⟩ := numP_U hp
  have HU := Lib.hid hu
  have HV := Lib.hid hv
  obtain ⟨b0, b1, b2, b3⟩ := hB
  have hfz := (b3 1).1
  clear hz hb hp hu hv b3 hS
  go_enter Tryd.func79, Tryd.ntmps79
  go_wp2_with fail
  refine (refnum_any mb A n c I bad bs w HB'.out hA hn HZ.out hI HB.out u l HU.out).mono ?_
  rintro e w1 ⟨rfl, m, rfl⟩
  go_wp2_with fail
  refine (runfold_any u _ (by omega) hu64).mono ?_
  rintro e w2 ⟨rfl, rfl⟩
  rw [← HV.out]
  have hl2 : ((l : Int) == 0) = false := by simp; omega
  have hl3 : decide ((l : Int) = 0) = false := by simp; omega
  go_wp2
  go_ret2
  exact ⟨rfl, HQ.out _⟩
end Go.Proofs.YthogafecplhckaaDoor
