/- The document's reader: a text, bytes. -/
import Derived.Test.YtedldajlioeioaaY
import Derived.Test.YtedldajlioeioaaV
namespace Go.Proofs.Ytedldajlioeioaa
open Go.RowKit
set_option linter.unusedSimpArgs false
set_option linter.unusedVariables false
/-- A value that is a slice of these bytes. -/
def SV (w : World) (v : Value) (xs : List Int) : Prop := ∃ A c, v = .slice A xs.length c ∧ Row w A (xs.map (Value.int .u8)) ∧ (A = none → c = 0)
theorem conv_sv {w : World} {v : Value} {xs : List Int} (h : SV w v xs) : Sem.run Try.prog (convert 24 9 v) w = .ok (.string (strOfNums xs)) w := by
  obtain ⟨A, c, rfl, hr, hn⟩ := h
  cases xs with
  | nil =>
    cases A with
    | none => rw [hn rfl]; exact conv_nil w
    | some a =>
      have h1 := Try.underlying24
      have h2 := Try.underlying9
      have h3 := Try.underlying5
      go_simp
      rfl
  | cons x xs =>
    rcases hr with h | ⟨b, off, rfl, hc⟩
    · simp at h
    · exact run_convert_bytes_arg (P := Try.prog) w 24 5 Try.underlying24 Try.underlying5 b off _ c (x :: xs) rfl (fun i hi => hc i _ (by
        rw [List.getElem?_map, List.getElem?_eq_getElem hi, List.getD_eq_getElem?_getD, List.getElem?_eq_getElem hi]; rfl)) 9 Try.underlying9
/-- The bytes lie in a block that is not the reader's. -/
def RowX (w : World) (mb : Nat) (A : Option Addr) (bs : List Int) : Prop :=
  bs = [] ∨ ∃ b off, A = some ⟨b, off, none⟩ ∧ b ≠ mb ∧ ∀ j u, (bs.map (Value.int .u8))[j]? = some u → w.cell? ⟨b, off + j, none⟩ = some u
theorem RowX.row {w : World} {mb : Nat} {A : Option Addr} {bs : List Int} (h : RowX w mb A bs) : Row w A (bs.map (Value.int .u8)) := by
  rcases h with rfl | ⟨b, off, h1, _, h2⟩
  · exact .inl rfl
  · exact .inr ⟨b, off, h1, h2⟩
theorem RowX.far {w w' : World} {mb : Nat} {A : Option Addr} {bs : List Int} (h : RowX w mb A bs) (hg : w.grownBy w' (some mb)) : RowX w' mb A bs := by
  rcases h with rfl | ⟨b, off, h1, h2, h3⟩
  · exact .inl rfl
  · exact .inr ⟨b, off, h1, h2, fun j u hu => hg.cell (h3 j u hu) (by simpa using h2)⟩
theorem RowX.keep {w w' : World} {mb : Nat} {A : Option Addr} {bs : List Int} {row : Option Nat} (h : RowX w mb A bs) (hg : w.grownBy w' row) (hr : ∀ b off, A = some ⟨b, off, none⟩ → some b ≠ row) : RowX w' mb A bs := by
  rcases h with rfl | ⟨b, off, h1, h2, h3⟩
  · exact .inl rfl
  · exact .inr ⟨b, off, h1, h2, fun j u hu => hg.cell (h3 j u hu) (hr b off h1)⟩
theorem RowX.sub {w : World} {mb : Nat} {A : Option Addr} {bs : List Int} {n c I M : Nat} (h : RowX w mb A bs) (hz : n = bs.length) (hI : I + M ≤ n) (hc : c ≠ I) (hnil : A = none → c = 0) :
    SV w (.slice (A.map fun x => x.add I) M (c - I)) ((bs.drop I).take M) := by
  have hl : ((bs.drop I).take M).length = M := by rw [List.length_take, List.length_drop]; omega
  refine ⟨_, _, by rw [hl], ?_, ?_⟩
  · rcases h with rfl | ⟨b, off, rfl, _, h3⟩
    · exact .inl (by simp)
    · refine .inr ⟨b, off + I, by simp [Addr.add], fun j u hu => ?_⟩
      rw [Nat.add_assoc]
      refine h3 (I + j) u ?_
      rw [List.getElem?_map, List.getElem?_take] at hu
      rw [List.getElem?_map]
      split at hu
      · rw [List.getElem?_drop] at hu; exact hu
      · simp at hu
  · intro h0
    have := hnil (by simpa using h0)
    omega
theorem RowX.sub0 (w : World) (A : Option Addr) {bs : List Int} {I : Nat} : SV w (.slice A 0 0) ((bs.drop I).take 0) := ⟨A, 0, by simp, .inl (by simp), fun _ => rfl⟩
set_option maxRecDepth 100000 in
set_option maxHeartbeats 1000000 in
theorem refbytes_bad (mb : Nat) (A : Option Addr) (n c I : Nat) (bad : Bool) (m : Int) (w : World) (hB : Bx w mb (.slice A n c) I bad) (hn : n ≤ 1000000) (hI : I ≤ n) (hbad : m < 0 ∨ (n : Int) - I < m) :
    Calls Try.prog 30 #[.pointer (some ⟨mb, 0, none⟩), .int .i64 m] w (RefPost w mb (.slice A n c) (.slice none 0 0) 11 I true) := by
  have HQ := Lib.hid (fun m => ⟨(hB.drew m).setBad, (grown_drewN w m _).trans (grown_set _ mb 2 _)⟩ : ∀ m, Bx ((w.drewN m).setCell ⟨mb, 2, none⟩ (.bool true)) mb (.slice A n c) I true ∧ w.grownBy ((w.drewN m).setCell ⟨mb, 2, none⟩ (.bool true)) (some mb))
  obtain ⟨b0, b1, b2, b3⟩ := hB
  have hfz := (b3 2).1
  clear b3
  have hsub : IntKind.i64.wrap ((n : Int) - (I : Int)) = ((n - I : Nat) : Int) := by rw [IntWalk.i64_in _ (by omega)]; omega
  obtain ⟨D, hD⟩ : ∃ D, D = n - I := ⟨_, rfl⟩
  rw [← hD] at hsub
  go_enter Try.func30, Try.ntmps30
  go_wp2_with fail
  by_cases hm : m < 0
  · have hd : decide (m < 0) = true := by simp; omega
    go_quiet (fail)
    go_wp2_with fail
    go_ret2
    exact ⟨rfl, HQ.out _⟩
  · have hd : decide (m < 0) = false := by simp; omega
    have hd2 : decide ((D : Int) < m) = true := by simp; omega
    go_quiet (fail)
    go_wp2_with fail
    go_ret2
    exact ⟨rfl, HQ.out _⟩
set_option maxRecDepth 100000 in
set_option maxHeartbeats 1000000 in
theorem refbytes_good (mb : Nat) (A : Option Addr) (n c I M : Nat) (bad : Bool) (bs : List Int) (w : World) (hB : Bx w mb (.slice A n c) I bad) (hA : RowX w mb A bs) (hnil : A = none → c = 0) (hnc : n ≤ c) (hn : n ≤ 1000000) (hz : n = bs.length) (hI : I + M ≤ n) :
    Calls Try.prog 30 #[.pointer (some ⟨mb, 0, none⟩), .int .i64 M] w fun e w' => ∃ v, RefPost w mb (.slice A n c) v 0 (I + M) bad e w' ∧ SV w' v ((bs.drop I).take M) := by
  have HZ := Lib.hid hz
  have HN := Lib.hid hnil
  clear hz hnil
  have hsub : IntKind.i64.wrap ((n : Int) - (I : Int)) = ((n - I : Nat) : Int) := by rw [IntWalk.i64_in _ (by omega)]; omega
  have hsum : IntKind.i64.wrap ((I : Int) + (M : Int)) = ((I + M : Nat) : Int) := by rw [IntWalk.i64_in _ (by omega)]; omega
  have hdif : IntKind.i64.wrap (((I + M : Nat) : Int) - (M : Int)) = (I : Int) := by rw [IntWalk.i64_in _ (by omega)]; omega
  obtain ⟨D, hD⟩ : ∃ D, D = n - I := ⟨_, rfl⟩
  obtain ⟨S, hS⟩ : ∃ S, S = I + M := ⟨_, rfl⟩
  rw [← hD] at hsub
  rw [← hS] at hsum hdif ⊢
  have HG := Lib.hid (fun m r => ((grown_drewN w m _).trans (grown_set _ mb 1 (.int .i64 S))).trans (grown_drewN _ r _) : ∀ m r, w.grownBy (((w.drewN m).setCell ⟨mb, 1, none⟩ (.int .i64 S)).drewN r) (some mb))
  have HQ := Lib.hid (fun m r => ((hB.drew m).setI S).drew r : ∀ m r, Bx (((w.drewN m).setCell ⟨mb, 1, none⟩ (.int .i64 S)).drewN r) mb (.slice A n c) S bad)
  have HA := Lib.hid hA
  obtain ⟨b0, b1, b2, b3⟩ := hB
  have hfz := (b3 1).1
  have hd : decide ((M : Int) < 0) = false := by simp
  have hd2 : decide ((D : Int) < (M : Int)) = false := by simp; omega
  have hd3 : decide (D < M) = false := by simp; omega
  have hIS : I ≤ S := by omega
  have hSn : S ≤ n := by omega
  have hSI : S - I = M := by omega
  have HI := Lib.hid hI
  have HNC := Lib.hid hnc
  have HS := Lib.hid hS
  clear b3 hD hS hI hA
  by_cases hcI : c = I
  · obtain rfl : M = 0 := by have := HI.out; have := HNC.out; omega
    obtain rfl : S = I := by have := HS.out; omega
    subst hcI
    go_enter Try.func30, Try.ntmps30
    go_wp2_with fail
    go_quiet (fail)
    go_wp2_with fail
    go_quiet (fail)
    go_wp2_with fail
    go_ret2
    exact ⟨_, ⟨rfl, HQ.out _ _, HG.out _ _⟩, RowX.sub0 _ _⟩
  · have hne : (c == I) = false := by simp; omega
    go_enter Try.func30, Try.ntmps30
    go_wp2_with fail
    go_quiet (fail)
    go_wp2_with fail
    go_quiet (fail)
    go_wp2_with fail
    go_ret2
    exact ⟨_, ⟨rfl, HQ.out _ _, HG.out _ _⟩, (HA.out.far (HG.out _ _)).sub HZ.out HI.out hcI HN.out⟩
end Go.Proofs.Ytedldajlioeioaa
