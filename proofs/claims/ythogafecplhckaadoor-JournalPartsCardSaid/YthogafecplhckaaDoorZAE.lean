/- The document's reader: a number. The document's reader: N and Whole; what its Decode reads. The document's reader: a text, bytes. The document's reader: a text. The document's reader: T. -/
import Derived.Test.YthogafecplhckaaDoorGX
import Derived.Test.YthogafecplhckaaDoorGZ
import Derived.Deep.AppendLies
import Derived.Maps.AppendAt
import Derived.Deep.QuietTactic
import Derived.BigQuiet
namespace Go.Proofs.YthogafecplhckaaDoor
open Go.RowKit
set_option linter.unusedSimpArgs false
set_option linter.unusedVariables false
theorem grown_drewN (w : World) (n : Nat) (row : Option Nat) : w.grownBy (w.drewN n) row := ⟨rfl, rfl, rfl, Nat.le_refl _, fun _ _ _ => rfl⟩
theorem grown_set (w : World) (mb o : Nat) (v : Value) : w.grownBy (w.setCell ⟨mb, o, none⟩ v) (some mb) :=
  ⟨rfl, rfl, rfl, by simp [World.setCell], fun i hi hne => Below.heap_setCell w _ _ i (fun e => hne (by rw [e]))⟩
theorem Bx.setI {w : World} {mb : Nat} {V : Value} {I : Nat} {bad : Bool} (h : Bx w mb V I bad) (J : Nat) : Bx (w.setCell ⟨mb, 1, none⟩ (.int .i64 J)) mb V J bad := by
  obtain ⟨h0, h1, h2, h3⟩ := h
  refine ⟨?_, World.cell?_setCell_same' w _ _ (by rw [h1]; rfl), ?_, fun o => ⟨by rw [World.frozen?_setCell]; exact (h3 o).1, fun h => by rw [World.cell?_setCell_other w _ _ _ (fun e => by have := congrArg Addr.off e; simp at this; omega)]; exact (h3 o).2 h⟩⟩
  · rw [World.cell?_setCell_other w _ _ _ (fun e => by simpa using congrArg Addr.off e)]; exact h0
  · rw [World.cell?_setCell_other w _ _ _ (fun e => by simpa using congrArg Addr.off e)]; exact h2
theorem Bx.setBad {w : World} {mb : Nat} {V : Value} {I : Nat} {bad : Bool} (h : Bx w mb V I bad) : Bx (w.setCell ⟨mb, 2, none⟩ (.bool true)) mb V I true := by
  obtain ⟨h0, h1, h2, h3⟩ := h
  refine ⟨?_, ?_, World.cell?_setCell_same' w _ _ (by rw [h2]; rfl), fun o => ⟨by rw [World.frozen?_setCell]; exact (h3 o).1, fun h => by rw [World.cell?_setCell_other w _ _ _ (fun e => by have := congrArg Addr.off e; simp at this; omega)]; exact (h3 o).2 h⟩⟩
  · rw [World.cell?_setCell_other w _ _ _ (fun e => by simpa using congrArg Addr.off e)]; exact h0
  · rw [World.cell?_setCell_other w _ _ _ (fun e => by simpa using congrArg Addr.off e)]; exact h1
theorem Bx.drew {w : World} {mb : Nat} {V : Value} {I : Nat} {bad : Bool} (h : Bx w mb V I bad) (n : Nat) : Bx (w.drewN n) mb V I bad := by
  obtain ⟨h0, h1, h2, h3⟩ := h
  exact ⟨by simpa using h0, by simpa using h1, by simpa using h2, fun o => ⟨by simpa using (h3 o).1, fun h => by simpa using (h3 o).2 h⟩⟩
theorem Bx.grown {w w' : World} {mb : Nat} {V : Value} {I : Nat} {bad : Bool} {row : Option Nat} (h : Bx w mb V I bad) (hg : w.grownBy w' row) (hlt : mb < w.heap.size) (hne : some mb ≠ row) : Bx w' mb V I bad :=
  ⟨hg.cell h.1 hne, hg.cell h.2.1 hne, hg.cell h.2.2.1 hne, fun o => ⟨(hg.frozen_far _ hlt hne).trans (h.2.2.2 o).1, fun ho => (hg.cell_far _ hlt hne).trans ((h.2.2.2 o).2 ho)⟩⟩
/-- What a reading call leaves of the document's reader. -/
def RefPost (w : World) (mb : Nat) (V v : Value) (err : Int) (I : Nat) (bad : Bool) (e : Ending) (w' : World) : Prop :=
  e = .returned (.tuple #[v, .int .i64 err]) ∧ Bx w' mb V I bad ∧ w.grownBy w' (some mb)
theorem numP_U {cs : List Int} {v : Int} {l : Nat} (h : numP cs = (v, l)) : ∃ u : Nat, numU cs = (u, l) ∧ (u : Int) ≤ 18446744073709551615 ∧ v = unfoldZ u := by
  unfold numP at h
  unfold numU
  cases hn : numAux 0 0 cs with
  | none => rw [hn] at h; simp only [Prod.mk.injEq] at h; exact ⟨0, by simp; omega, by omega, by rw [← h.1]; rfl⟩
  | some p =>
    obtain ⟨u, k⟩ := p
    have := num_le cs 0 0 u k hn
    rw [hn] at h
    simp only [Prod.mk.injEq] at h
    exact ⟨u, by simp; omega, by omega, h.1.symm⟩
set_option maxRecDepth 100000 in
set_option maxHeartbeats 1000000 in
theorem refrint_bad (mb : Nat) (A : Option Addr) (n c I : Nat) (bad : Bool) (bs : List Int) (lo hi : Int) (w : World) (hB : Bx w mb (.slice A n c) I bad) (hA : Row w A (bs.map (Value.int .u8))) (hn : n ≤ 1000000) (hz : n = bs.length) (hI : I ≤ n) (hb : bytes bs) (v : Int) (l : Nat) (hp : numP (bs.drop I) = (v, l)) (hbad : l = 0 ∨ v < lo ∨ hi < v) :
    Calls Tryd.prog 79 #[.pointer (some ⟨mb, 0, none⟩), .int .i64 lo, .int .i64 hi] w (RefPost w mb (.slice A n c) (.int .i64 0) 11 I true) := by
  have HB' := Lib.hid hB
  have HZ := Lib.hid hz
  have HB := Lib.hid hb
  have HQ := Lib.hid (fun m => ⟨(hB.drew m).setBad, (grown_drewN w m _).trans (grown_set _ mb 2 _)⟩ : ∀ m, Bx ((w.drewN m).setCell ⟨mb, 2, none⟩ (.bool true)) mb (.slice A n c) I true ∧ w.grownBy ((w.drewN m).setCell ⟨mb, 2, none⟩ (.bool true)) (some mb))
  obtain ⟨u, hu, hu64, hv⟩ := numP_U hp
  have HU := Lib.hid hu
  have HV := Lib.hid hv
  obtain ⟨b0, b1, b2, b3⟩ := hB
  have hfz := (b3 2).1
  clear hz hb hp hu hv b3
  go_enter Tryd.func79, Tryd.ntmps79
  go_wp2_with fail
  refine (refnum_any mb A n c I bad bs w HB'.out hA hn HZ.out hI HB.out u l HU.out).mono ?_
  rintro e w1 ⟨rfl, m, rfl⟩
  go_wp2_with fail
  refine (runfold_any u _ (by omega) hu64).mono ?_
  rintro e w2 ⟨rfl, rfl⟩
  rw [← HV.out]
  by_cases hl : l = 0
  · subst hl
    go_wp2
    go_ret2
    exact ⟨rfl, HQ.out _⟩
  · have hl2 : ((l : Int) == 0) = false := by simp; omega
    have hl3 : decide ((l : Int) = 0) = false := by simp; omega
    by_cases h7 : v < lo
    · go_wp2
      go_ret2
      exact ⟨rfl, HQ.out _⟩
    · have h8 : hi < v := by omega
      go_wp2
      go_ret2
      exact ⟨rfl, HQ.out _⟩
set_option maxRecDepth 100000 in
set_option maxHeartbeats 1000000 in
theorem refrint_good (mb : Nat) (A : Option Addr) (n c I : Nat) (bad : Bool) (bs : List Int) (lo hi : Int) (w : World) (hB : Bx w mb (.slice A n c) I bad) (hA : Row w A (bs.map (Value.int .u8))) (hn : n ≤ 1000000) (hz : n = bs.length) (hI : I ≤ n) (hb : bytes bs) (v : Int) (l : Nat) (hp : numP (bs.drop I) = (v, l)) (hl : 0 < l) (hv1 : lo ≤ v) (hv2 : v ≤ hi) :
    Calls Tryd.prog 79 #[.pointer (some ⟨mb, 0, none⟩), .int .i64 lo, .int .i64 hi] w (RefPost w mb (.slice A n c) (.int .i64 v) 0 (I + l) bad) := by
  have HB' := Lib.hid hB
  have HZ := Lib.hid hz
  have HB := Lib.hid hb
  have hll : l ≤ n := by have := (numP_len hp).1; rw [List.length_drop] at this; omega
  have hsum : IntKind.i64.wrap ((I : Int) + (l : Int)) = ((I + l : Nat) : Int) := by rw [IntWalk.i64_in _ (by omega)]; omega
  obtain ⟨S, hS⟩ : ∃ S, S = I + l := ⟨_, rfl⟩
  rw [← hS] at hsum ⊢
  have HQ := Lib.hid (fun m => ⟨(hB.drew m).setI S, (grown_drewN w m _).trans (grown_set _ mb 1 _)⟩ : ∀ m, Bx ((w.drewN m).setCell ⟨mb, 1, none⟩ (.int .i64 S)) mb (.slice A n c) S bad ∧ w.grownBy ((w.drewN m).setCell ⟨mb, 1, none⟩ (.int .i64 S)) (some mb))
  obtain ⟨u, hu, hu64, hv⟩ := numP_U hp
  have HU := Lib.hid hu
  have HV := Lib.hid hv
  obtain ⟨b0, b1, b2, b3⟩ := hB
  have hfz := (b3 1).1
  clear hz hb hp hu hv b3 hS
  go_enter Tryd.func79, Tryd.ntmps79
  go_wp2_with fail
  refine (refnum_any mb A n c I bad bs w HB'.out hA hn HZ.out hI HB.out u l HU.out).mono ?_
  rintro e w1 ⟨rfl, m, rfl⟩
  go_wp2_with fail
  refine (runfold_any u _ (by omega) hu64).mono ?_
  rintro e w2 ⟨rfl, rfl⟩
  rw [← HV.out]
  have hl2 : ((l : Int) == 0) = false := by simp; omega
  have hl3 : decide ((l : Int) = 0) = false := by simp; omega
  go_wp2
  go_ret2
  exact ⟨rfl, HQ.out _⟩
end Go.Proofs.YthogafecplhckaaDoor
namespace Go.Proofs.YthogafecplhckaaDoor
open Go.RowKit
set_option linter.unusedSimpArgs false
set_option linter.unusedVariables false
/-- What N answers, and where the reader is then. -/
def Nx (lo hi : Int) (bs : List Int) (I : Nat) (bad : Bool) (v : Int) (J : Nat) (b : Bool) : Prop :=
  (numP (bs.drop I) = (v, J - I) ∧ I < J ∧ J ≤ bs.length ∧ lo ≤ v ∧ v ≤ hi ∧ b = bad) ∨ (((numP (bs.drop I)).2 = 0 ∨ (numP (bs.drop I)).1 < lo ∨ hi < (numP (bs.drop I)).1) ∧ v = 0 ∧ J = I ∧ b = true)
theorem Nx.le {lo hi : Int} {bs : List Int} {I : Nat} {bad : Bool} {v : Int} {J : Nat} {b : Bool} (h : Nx lo hi bs I bad v J b) (hI : I ≤ bs.length) : J ≤ bs.length := by
  rcases h with ⟨_, _, h, _⟩ | ⟨_, _, h, _⟩ <;> omega
theorem Nx.bd {lo hi : Int} {bs : List Int} {I : Nat} {bad : Bool} {v : Int} {J : Nat} {b : Bool} (h : Nx lo hi bs I bad v J b) (h0 : lo ≤ 0) (h1 : 0 ≤ hi) : lo ≤ v ∧ v ≤ hi := by
  rcases h with ⟨_, _, _, h2, h3, _⟩ | ⟨_, h, _⟩ <;> omega
set_option maxRecDepth 100000 in
set_option maxHeartbeats 1000000 in
theorem refn_any (mb : Nat) (A : Option Addr) (n c I : Nat) (bad : Bool) (bs : List Int) (lo hi : Int) (w : World) (hB : Bx w mb (.slice A n c) I bad) (hA : Row w A (bs.map (Value.int .u8))) (hn : n ≤ 1000000) (hz : n = bs.length) (hI : I ≤ n) (hb : bytes bs) :
    Calls Tryd.prog 59 #[.pointer (some ⟨mb, 0, none⟩), .int .i64 lo, .int .i64 hi] w fun e w' => ∃ (v : Int) (J : Nat) (b : Bool), Nx lo hi bs I bad v J b ∧ e = .returned (.int .i64 v) ∧ Bx w' mb (.slice A n c) J b ∧ w.grownBy w' (some mb) := by
  obtain ⟨v, l, hp⟩ : ∃ v l, numP (bs.drop I) = (v, l) := ⟨_, _, rfl⟩
  have hlen := numP_len hp
  rw [List.length_drop] at hlen
  have HP := Lib.hid hp
  have HB := Lib.hid hB
  have HA := Lib.hid hA
  have HZ := Lib.hid hz
  have HBB := Lib.hid hb
  by_cases hbad : l = 0 ∨ v < lo ∨ hi < v
  · have HBAD := Lib.hid hbad
    clear hp hB hA hz hb hbad
    go_enter Tryd.func59, Tryd.ntmps59
    go_wp2_with fail
    refine (refrint_bad mb A n c I bad bs lo hi w HB.out HA.out hn HZ.out hI HBB.out v l HP.out HBAD.out).mono ?_
    rintro e w1 ⟨rfl, h1, h2⟩
    go_wp2
    go_ret
    exact ⟨0, I, true, .inr ⟨by rw [HP.out]; exact HBAD.out, rfl, rfl, rfl⟩, rfl, h1, h2⟩
  · have hl0 : 0 < l := by omega
    have hv1 : lo ≤ v := by omega
    have hv2 : v ≤ hi := by omega
    clear hp hB hA hz hb hbad
    go_enter Tryd.func59, Tryd.ntmps59
    go_wp2_with fail
    refine (refrint_good mb A n c I bad bs lo hi w HB.out HA.out hn HZ.out hI HBB.out v l HP.out hl0 hv1 hv2).mono ?_
    rintro e w1 ⟨rfl, h1, h2⟩
    go_wp2
    go_ret
    exact ⟨v, I + l, bad, .inl ⟨by rw [HP.out]; congr 1; omega, by omega, by have := HZ.out; omega, hv1, hv2, rfl⟩, rfl, h1, h2⟩
set_option maxRecDepth 100000 in
set_option maxHeartbeats 1000000 in
theorem whole_any (mb : Nat) (A : Option Addr) (n c I : Nat) (bad : Bool) (w : World) (hB : Bx w mb (.slice A n c) I bad) (r : Bool) (hr : r = true ↔ bad = false ∧ I = n) :
    Calls Tryd.prog 62 #[.pointer (some ⟨mb, 0, none⟩)] w fun e w' => e = .returned (.bool r) ∧ ∃ m, w' = w.drewN m := by
  obtain ⟨b0, b1, b2, _⟩ := hB
  have HR := Lib.hid hr
  clear hr
  cases bad with
  | true =>
    have hr : r = false := by cases r with | false => rfl | true => exact absurd (HR.out.1 rfl).1 (by simp)
    go_enter Tryd.func62, Tryd.ntmps62
    go_wp2_with fail
    go_quiet (fail)
    go_wp2_with fail
    go_ret
    exact ⟨by rw [hr]; first | rfl | simp, _, rfl⟩
  | false =>
    by_cases hIn : I = n
    · have he : ((I : Int) == (n : Int)) = true := by rw [beq_iff_eq]; omega
      have hr : r = true := HR.out.2 ⟨rfl, hIn⟩
      clear hIn
      go_enter Tryd.func62, Tryd.ntmps62
      go_wp2_with fail
      go_quiet (fail)
      go_wp2_with fail
      go_ret
      exact ⟨by rw [hr]; first | rfl | simp, _, rfl⟩
    · have he : ((I : Int) == (n : Int)) = false := by rw [beq_eq_false_iff_ne]; omega
      have hr : r = false := by cases r with | false => rfl | true => exact absurd (HR.out.1 rfl).2 hIn
      clear hIn
      go_enter Tryd.func62, Tryd.ntmps62
      go_wp2_with fail
      go_quiet (fail)
      go_wp2_with fail
      go_ret
      exact ⟨by rw [hr]; first | rfl | simp, _, rfl⟩
end Go.Proofs.YthogafecplhckaaDoor
namespace Go.Proofs.YthogafecplhckaaDoor
open Go.RowKit
set_option linter.unusedSimpArgs false
set_option linter.unusedVariables false
set_option maxRecDepth 100000
theorem conv_nil (w : World) : Sem.run Tryd.prog (convert 25 9 (.slice none 0 0)) w = .ok (.string (strOfNums [])) w := by
  have h1 := Tryd.underlying25
  have h2 := Tryd.underlying9
  have h3 := Tryd.underlying5
  go_simp
  rfl
/-- A value that is a slice of these bytes. -/
def SV (w : World) (v : Value) (xs : List Int) : Prop := ∃ A c, v = .slice A xs.length c ∧ Row w A (xs.map (Value.int .u8)) ∧ (A = none → c = 0)
theorem conv_sv {w : World} {v : Value} {xs : List Int} (h : SV w v xs) : Sem.run Tryd.prog (convert 25 9 v) w = .ok (.string (strOfNums xs)) w := by
  obtain ⟨A, c, rfl, hr, hn⟩ := h
  cases xs with
  | nil =>
    cases A with
    | none => rw [hn rfl]; exact conv_nil w
    | some a =>
      have h1 := Tryd.underlying25
      have h2 := Tryd.underlying9
      have h3 := Tryd.underlying5
      go_simp
      rfl
  | cons x xs =>
    rcases hr with h | ⟨b, off, rfl, hc⟩
    · simp at h
    · exact run_convert_bytes_arg (P := Tryd.prog) w 25 5 Tryd.underlying25 Tryd.underlying5 b off _ c (x :: xs) rfl (fun i hi => hc i _ (by
        rw [List.getElem?_map, List.getElem?_eq_getElem hi, List.getD_eq_getElem?_getD, List.getElem?_eq_getElem hi]; rfl)) 9 Tryd.underlying9
/-- The bytes lie in a block that is not the reader's. -/
def RowX (w : World) (mb : Nat) (A : Option Addr) (bs : List Int) : Prop :=
  bs = [] ∨ ∃ b off, A = some ⟨b, off, none⟩ ∧ b ≠ mb ∧ ∀ j u, (bs.map (Value.int .u8))[j]? = some u → w.cell? ⟨b, off + j, none⟩ = some u
theorem RowX.row {w : World} {mb : Nat} {A : Option Addr} {bs : List Int} (h : RowX w mb A bs) : Row w A (bs.map (Value.int .u8)) := by
  rcases h with rfl | ⟨b, off, h1, _, h2⟩
  · exact .inl rfl
  · exact .inr ⟨b, off, h1, h2⟩
theorem RowX.far {w w' : World} {mb : Nat} {A : Option Addr} {bs : List Int} (h : RowX w mb A bs) (hg : w.grownBy w' (some mb)) : RowX w' mb A bs := by
  rcases h with rfl | ⟨b, off, h1, h2, h3⟩
  · exact .inl rfl
  · exact .inr ⟨b, off, h1, h2, fun j u hu => hg.cell (h3 j u hu) (by simpa using h2)⟩
theorem RowX.keep {w w' : World} {mb : Nat} {A : Option Addr} {bs : List Int} {row : Option Nat} (h : RowX w mb A bs) (hg : w.grownBy w' row) (hr : ∀ b off, A = some ⟨b, off, none⟩ → some b ≠ row) : RowX w' mb A bs := by
  rcases h with rfl | ⟨b, off, h1, h2, h3⟩
  · exact .inl rfl
  · exact .inr ⟨b, off, h1, h2, fun j u hu => hg.cell (h3 j u hu) (hr b off h1)⟩
theorem RowX.sub {w : World} {mb : Nat} {A : Option Addr} {bs : List Int} {n c I M : Nat} (h : RowX w mb A bs) (hz : n = bs.length) (hI : I + M ≤ n) (hc : c ≠ I) (hnil : A = none → c = 0) :
    SV w (.slice (A.map fun x => x.add I) M (c - I)) ((bs.drop I).take M) := by
  have hl : ((bs.drop I).take M).length = M := by rw [List.length_take, List.length_drop]; omega
  refine ⟨_, _, by rw [hl], ?_, ?_⟩
  · rcases h with rfl | ⟨b, off, rfl, _, h3⟩
    · exact .inl (by simp)
    · refine .inr ⟨b, off + I, by simp [Addr.add], fun j u hu => ?_⟩
      rw [Nat.add_assoc]
      refine h3 (I + j) u ?_
      rw [List.getElem?_map, List.getElem?_take] at hu
      rw [List.getElem?_map]
      split at hu
      · rw [List.getElem?_drop] at hu; exact hu
      · simp at hu
  · intro h0
    have := hnil (by simpa using h0)
    omega
theorem RowX.sub0 (w : World) (A : Option Addr) {bs : List Int} {I : Nat} : SV w (.slice A 0 0) ((bs.drop I).take 0) := ⟨A, 0, by simp, .inl (by simp), fun _ => rfl⟩
end Go.Proofs.YthogafecplhckaaDoor
namespace Go.Proofs.YthogafecplhckaaDoor
open Go.RowKit
set_option linter.unusedSimpArgs false
set_option linter.unusedVariables false
set_option maxRecDepth 100000 in
set_option maxHeartbeats 1000000 in
theorem reftext_bad1 (mb : Nat) (A : Option Addr) (n c I : Nat) (bad : Bool) (bs : List Int) (hi : Int) (w : World) (hB : Bx w mb (.slice A n c) I bad) (hA : RowX w mb A bs) (hn : n ≤ 1000000) (hz : n = bs.length) (hI : I ≤ n) (hb : bytes bs) (v : Int) (l : Nat) (hp : numP (bs.drop I) = (v, l)) (hbad : l = 0 ∨ v < 0 ∨ hi < v) :
    Calls Tryd.prog 80 #[.pointer (some ⟨mb, 0, none⟩), .int .i64 hi] w (RefPost w mb (.slice A n c) (.string ByteArray.empty) 11 I true) := by
  have HZ := Lib.hid hz
  have HB := Lib.hid hb
  have HP := Lib.hid hp
  have HBX := Lib.hid hB
  have HA := Lib.hid hA
  obtain ⟨b0, b1, b2, b3⟩ := hB
  clear hz hb hp b3 hA
  go_enter Tryd.func80, Tryd.ntmps80
  go_wp2_with fail
  refine (refrint_bad mb A n c I bad bs 0 hi _ HBX.out HA.out.row hn HZ.out hI HB.out v l HP.out hbad).mono ?_
  rintro e w1 ⟨rfl, hB1, hg⟩
  have HQ := Lib.hid (fun m => ⟨((hB1.drew m).setI I).setBad, hg.trans ((grown_drewN w1 m _).trans ((grown_set _ mb 1 _).trans (grown_set _ mb 2 _)))⟩ : ∀ m, Bx (((w1.drewN m).setCell ⟨mb, 1, none⟩ (.int .i64 I)).setCell ⟨mb, 2, none⟩ (.bool true)) mb (.slice A n c) I true ∧ w.grownBy (((w1.drewN m).setCell ⟨mb, 1, none⟩ (.int .i64 I)).setCell ⟨mb, 2, none⟩ (.bool true)) (some mb))
  obtain ⟨d0, d1, d2, d3⟩ := hB1
  have hf1 := (d3 1).1
  have hf2 := (d3 2).1
  have HG := Lib.hid hg
  clear d3 hg b0 b1 b2
  go_wp2_with fail
  go_quiet (fail)
  go_wp2_with fail
  go_ret2
  exact ⟨rfl, HQ.out _⟩
set_option maxRecDepth 100000 in
set_option maxHeartbeats 1000000 in
theorem reftext_bad2 (mb : Nat) (A : Option Addr) (n c I : Nat) (bad : Bool) (bs : List Int) (hi : Int) (w : World) (hB : Bx w mb (.slice A n c) I bad) (hA : RowX w mb A bs) (hn : n ≤ 1000000) (hz : n = bs.length) (hI : I ≤ n) (hb : bytes bs) (v : Int) (l : Nat) (hp : numP (bs.drop I) = (v, l)) (hl : 0 < l) (hv1 : 0 ≤ v) (hv2 : v ≤ hi) (hlen : (n : Int) - (I + l : Nat) < v) :
    Calls Tryd.prog 80 #[.pointer (some ⟨mb, 0, none⟩), .int .i64 hi] w (RefPost w mb (.slice A n c) (.string ByteArray.empty) 11 I true) := by
  have HZ := Lib.hid hz
  have HB := Lib.hid hb
  have HP := Lib.hid hp
  have HBX := Lib.hid hB
  have HA := Lib.hid hA
  have hll : I + l ≤ n := by have := (numP_len hp).1; rw [List.length_drop] at this; omega
  obtain ⟨b0, b1, b2, b3⟩ := hB
  clear hz hb hp b3 hA
  go_enter Tryd.func80, Tryd.ntmps80
  go_wp2_with fail
  refine (refrint_good mb A n c I bad bs 0 hi _ HBX.out HA.out.row hn HZ.out hI HB.out v l HP.out hl hv1 hv2).mono ?_
  rintro e w1 ⟨rfl, hB1, hg⟩
  have HQ := Lib.hid (fun m => ⟨((hB1.drew m).setI I).setBad, hg.trans ((grown_drewN w1 m _).trans ((grown_set _ mb 1 _).trans (grown_set _ mb 2 _)))⟩ : ∀ m, Bx (((w1.drewN m).setCell ⟨mb, 1, none⟩ (.int .i64 I)).setCell ⟨mb, 2, none⟩ (.bool true)) mb (.slice A n c) I true ∧ w.grownBy (((w1.drewN m).setCell ⟨mb, 1, none⟩ (.int .i64 I)).setCell ⟨mb, 2, none⟩ (.bool true)) (some mb))
  obtain ⟨d0, d1, d2, d3⟩ := hB1
  have hf1 := (d3 1).1
  have hf2 := (d3 2).1
  have HG := Lib.hid hg
  obtain ⟨S, hS⟩ : ∃ S, S = I + l := ⟨_, rfl⟩
  rw [← hS] at d1 hlen hll
  have hsub : IntKind.i64.wrap ((n : Int) - (S : Int)) = ((n - S : Nat) : Int) := by rw [IntWalk.i64_in _ (by omega)]; omega
  obtain ⟨D, hD⟩ : ∃ D, D = n - S := ⟨_, rfl⟩
  rw [← hD] at hsub
  have hd : decide ((D : Int) < v) = true := by simp; omega
  clear d3 hg b0 b1 b2 hS hD
  go_wp2_with fail
  go_quiet (fail)
  go_wp2_with fail
  go_ret2
  exact ⟨rfl, HQ.out _⟩
set_option maxRecDepth 100000 in
set_option maxHeartbeats 1000000 in
theorem reftext_good (mb : Nat) (A : Option Addr) (n c I : Nat) (bad : Bool) (bs : List Int) (hi : Int) (w : World) (hB : Bx w mb (.slice A n c) I bad) (hA : RowX w mb A bs) (hnil : A = none → c = 0) (hnc : n ≤ c) (hn : n ≤ 1000000) (hz : n = bs.length) (hI : I ≤ n) (hb : bytes bs) (t l : Nat) (hp : numP (bs.drop I) = ((t : Int), l)) (hl : 0 < l) (hv2 : (t : Int) ≤ hi) (hlen : I + l + t ≤ n) :
    Calls Tryd.prog 80 #[.pointer (some ⟨mb, 0, none⟩), .int .i64 hi] w (RefPost w mb (.slice A n c) (.string (strOfNums ((bs.drop (I + l)).take t))) 0 (I + l + t) bad) := by
  have HZ := Lib.hid hz
  have HB := Lib.hid hb
  have HP := Lib.hid hp
  have HBX := Lib.hid hB
  have HA := Lib.hid hA
  have HN := Lib.hid hnil
  have ht0 : (0 : Int) ≤ (t : Int) := by omega
  obtain ⟨b0, b1, b2, b3⟩ := hB
  obtain ⟨S, hS⟩ : ∃ S, S = I + l := ⟨_, rfl⟩
  rw [← hS] at hlen ⊢
  obtain ⟨E, hE⟩ : ∃ E, E = S + t := ⟨_, rfl⟩
  rw [← hE]
  obtain ⟨s, hs⟩ : ∃ s, s = strOfNums ((bs.drop S).take t) := ⟨_, rfl⟩
  rw [← hs]
  have HSS := Lib.hid hS
  have HST := Lib.hid hs
  clear hz hb hp b3 hA hnil hs hS
  go_enter Tryd.func80, Tryd.ntmps80
  go_wp2_with fail
  refine (refrint_good mb A n c I bad bs 0 hi _ HBX.out HA.out.row hn HZ.out hI HB.out t l HP.out hl ht0 hv2).mono ?_
  rintro e w1 ⟨rfl, hB1, hg⟩
  rw [← HSS.out] at hB1
  have hsub : IntKind.i64.wrap ((n : Int) - (S : Int)) = ((n - S : Nat) : Int) := by rw [IntWalk.i64_in _ (by omega)]; omega
  have hsum : IntKind.i64.wrap ((S : Int) + (t : Int)) = ((S + t : Nat) : Int) := by rw [IntWalk.i64_in _ (by omega)]; omega
  have hdif : IntKind.i64.wrap (((S + t : Nat) : Int) - (t : Int)) = (S : Int) := by rw [IntWalk.i64_in _ (by omega)]; omega
  obtain ⟨D, hD⟩ : ∃ D, D = n - S := ⟨_, rfl⟩
  rw [← hD] at hsub
  rw [← hE] at hsum hdif
  have HG := Lib.hid (fun m r => hg.trans (((grown_drewN w1 m _).trans (grown_set _ mb 1 (.int .i64 E))).trans (grown_drewN _ r _)) : ∀ m r, w.grownBy (((w1.drewN m).setCell ⟨mb, 1, none⟩ (.int .i64 E)).drewN r) (some mb))
  have HQ := Lib.hid (fun m r => ((hB1.drew m).setI E).drew r : ∀ m r, Bx (((w1.drewN m).setCell ⟨mb, 1, none⟩ (.int .i64 E)).drewN r) mb (.slice A n c) E bad)
  obtain ⟨d0, d1, d2, d3⟩ := hB1
  have hf1 := (d3 1).1
  have hd : decide ((D : Int) < (t : Int)) = false := by simp; omega
  have hd3 : decide (D < t) = false := by simp; omega
  have hSE : S ≤ E := by omega
  have hEn : E ≤ n := by omega
  have hES : E - S = t := by omega
  have HS := Lib.hid hlen
  have HE := Lib.hid hE
  clear d3 hg b0 b1 b2 hD hE hlen
  by_cases hcI : c = S
  · obtain rfl : t = 0 := by have := HS.out; omega
    obtain rfl : E = S := by have := HE.out; omega
    subst hcI
    have hcv : ∀ m r, Sem.run Tryd.prog (convert 25 9 (.slice A 0 0)) (((w1.drewN m).setCell ⟨mb, 1, none⟩ (.int .i64 c)).drewN r) = .ok (.string s) (((w1.drewN m).setCell ⟨mb, 1, none⟩ (.int .i64 c)).drewN r) := fun m r => by rw [HST.out]; exact conv_sv (RowX.sub0 _ _)
    go_wp2_with fail
    go_quiet (fail)
    go_wp2_with fail
    go_quiet (fail)
    go_wp2_with fail
    go_ret2
    exact ⟨rfl, HQ.out _ _, HG.out _ _⟩
  · have hne : (c == S) = false := by simp; omega
    have hcv : ∀ m r, Sem.run Tryd.prog (convert 25 9 (.slice (A.map fun x => x.add S) t (c - S))) (((w1.drewN m).setCell ⟨mb, 1, none⟩ (.int .i64 E)).drewN r) = .ok (.string s) (((w1.drewN m).setCell ⟨mb, 1, none⟩ (.int .i64 E)).drewN r) :=
      fun m r => by rw [HST.out]; exact conv_sv ((HA.out.far (HG.out m r)).sub HZ.out HS.out hcI HN.out)
    go_wp2_with fail
    go_quiet (fail)
    go_wp2_with fail
    go_quiet (fail)
    go_wp2_with fail
    go_ret2
    exact ⟨rfl, HQ.out _ _, HG.out _ _⟩
end Go.Proofs.YthogafecplhckaaDoor
namespace Go.Proofs.YthogafecplhckaaDoor
open Go.RowKit
set_option linter.unusedSimpArgs false
set_option linter.unusedVariables false
/-- What T answers, and where the reader is then. -/
def Tx (hi : Int) (bs : List Int) (I : Nat) (bad : Bool) (s : ByteArray) (J : Nat) (b : Bool) : Prop :=
  (∃ l t : Nat, numP (bs.drop I) = ((t : Int), l) ∧ 0 < l ∧ (t : Int) ≤ hi ∧ I + l + t ≤ bs.length ∧ s = strOfNums ((bs.drop (I + l)).take t) ∧ J = I + l + t ∧ b = bad) ∨
  (((numP (bs.drop I)).2 = 0 ∨ (numP (bs.drop I)).1 < 0 ∨ hi < (numP (bs.drop I)).1 ∨ (bs.length : Int) - (I + (numP (bs.drop I)).2 : Nat) < (numP (bs.drop I)).1) ∧ s = ByteArray.empty ∧ J = I ∧ b = true)
set_option maxRecDepth 100000 in
set_option maxHeartbeats 1000000 in
theorem reft_any (mb : Nat) (A : Option Addr) (n c I : Nat) (bad : Bool) (bs : List Int) (hi : Int) (w : World) (hB : Bx w mb (.slice A n c) I bad) (hA : RowX w mb A bs) (hnil : A = none → c = 0) (hnc : n ≤ c) (hn : n ≤ 1000000) (hz : n = bs.length) (hI : I ≤ n) (hb : bytes bs) :
    Calls Tryd.prog 60 #[.pointer (some ⟨mb, 0, none⟩), .int .i64 hi] w fun e w' => ∃ (s : ByteArray) (J : Nat) (b : Bool), Tx hi bs I bad s J b ∧ e = .returned (.string s) ∧ Bx w' mb (.slice A n c) J b ∧ w.grownBy w' (some mb) := by
  obtain ⟨v, l, hp⟩ : ∃ v l, numP (bs.drop I) = (v, l) := ⟨_, _, rfl⟩
  have hlen := numP_len hp
  rw [List.length_drop] at hlen
  have HP := Lib.hid hp
  have HB := Lib.hid hB
  have HA := Lib.hid hA
  have HZ := Lib.hid hz
  have HBB := Lib.hid hb
  have HNIL := Lib.hid hnil
  by_cases hbad : l = 0 ∨ v < 0 ∨ hi < v
  · have HBAD := Lib.hid hbad
    have HT := Lib.hid (show Tx hi bs I bad ByteArray.empty I true from .inr ⟨by rw [HP.out]; rcases HBAD.out with h | h | h <;> simp [h], rfl, rfl, rfl⟩)
    clear hp hB hA hz hb hbad hnil
    go_enter Tryd.func60, Tryd.ntmps60
    go_wp2_with fail
    refine (reftext_bad1 mb A n c I bad bs hi w HB.out HA.out hn HZ.out hI HBB.out v l HP.out HBAD.out).mono ?_
    rintro e w1 ⟨rfl, h1, h2⟩
    go_wp2
    go_ret
    exact ⟨_, I, true, HT.out, rfl, h1, h2⟩
  · obtain ⟨t, rfl⟩ : ∃ t : Nat, v = (t : Int) := ⟨v.toNat, by omega⟩
    have hl0 : 0 < l := by omega
    have hv2 : (t : Int) ≤ hi := by omega
    by_cases hfit : I + l + t ≤ n
    · have HT := Lib.hid (show Tx hi bs I bad (strOfNums ((bs.drop (I + l)).take t)) (I + l + t) bad from .inl ⟨l, t, HP.out, hl0, hv2, by rw [← HZ.out]; exact hfit, rfl, rfl, rfl⟩)
      clear hp hB hA hz hb hbad hnil
      go_enter Tryd.func60, Tryd.ntmps60
      go_wp2_with fail
      refine (reftext_good mb A n c I bad bs hi w HB.out HA.out HNIL.out hnc hn HZ.out hI HBB.out t l HP.out hl0 hv2 hfit).mono ?_
      rintro e w1 ⟨rfl, h1, h2⟩
      go_wp2
      go_ret
      exact ⟨_, _, bad, HT.out, rfl, h1, h2⟩
    · have hfit2 : (n : Int) - (I + l : Nat) < (t : Int) := by omega
      have HT := Lib.hid (show Tx hi bs I bad ByteArray.empty I true from .inr ⟨by rw [HP.out]; exact .inr (.inr (.inr (by rw [← HZ.out]; exact hfit2))), rfl, rfl, rfl⟩)
      clear hp hB hA hz hb hbad hfit hnil
      go_enter Tryd.func60, Tryd.ntmps60
      go_wp2_with fail
      refine (reftext_bad2 mb A n c I bad bs hi w HB.out HA.out hn HZ.out hI HBB.out t l HP.out hl0 (by omega) hv2 hfit2).mono ?_
      rintro e w1 ⟨rfl, h1, h2⟩
      go_wp2
      go_ret
      exact ⟨_, I, true, HT.out, rfl, h1, h2⟩
end Go.Proofs.YthogafecplhckaaDoor
