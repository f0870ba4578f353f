/- The live question (8). -/
import Derived.Test.YtbccjkjibffbkaaKI
namespace Go.Proofs.Ytbccjkjibffbkaa
open Go.RowKit Go.Shelf
set_option linter.unusedSimpArgs false
set_option linter.unusedVariables false
def rv15 (t : Int) (s : ByteArray) (k : Int) : RV := ⟨t, [s], k, []⟩
theorem ref_alive : refF [] [rv15 1 ⟨#[120]⟩ 1, rv15 2 ⟨#[120]⟩ 1, rv15 1 ⟨#[97]⟩ 1, rv15 2 ⟨#[120]⟩ 5] = ([rv15 1 ⟨#[97]⟩ 1, rv15 1 ⟨#[120]⟩ 1, rv15 2 ⟨#[120]⟩ 6], 0) := by kernel_rfl
theorem keys_alive : keysN [rv15 1 ⟨#[120]⟩ 1, rv15 2 ⟨#[120]⟩ 1, rv15 1 ⟨#[97]⟩ 1, rv15 2 ⟨#[120]⟩ 5] = 3 := by kernel_rfl
theorem cmp_alive : cmpV (rv15 1 ⟨#[120]⟩ 1) (rv15 2 ⟨#[120]⟩ 1) < 0 ∧ cmpV (rv15 1 ⟨#[97]⟩ 1) (rv15 2 ⟨#[120]⟩ 5) < 0 := by decide +kernel
theorem okR_rv15 (t : Int) (s : ByteArray) (k : Int) (h : 0 ≤ k ∧ k ≤ 1048576) : OkR 0 (rv15 t s k) := ⟨h.1, h.2, rfl, fun g hg => absurd hg List.not_mem_nil⟩
def zr15 (b : Nat) (t : Int) (s : ByteArray) (k : Int) : RZ := (⟨some ⟨b, 0, none⟩, 1, 1, none, 0, 0⟩, rv15 t s k)
theorem good_zr15 {w : World} {b : Nat} {t k : Int} {s : ByteArray} (h : Row w (some ⟨b, 0, none⟩) (texts [s])) : Good w (zr15 b t s k) :=
  ⟨h, rfl, Nat.le_refl _, (fun h => by cases h), (by show 1 * 16 ≤ _; omega), .inl rfl, rfl, Nat.le_refl _, fun _ => rfl, by show 0 * 24 ≤ _; omega⟩
def ls15 (b0 b1 b2 b3 b4 b5 : Nat) : List Le := [⟨some ⟨b2, 0, none⟩, 2, 2, [zr15 b0 1 ⟨#[120]⟩ 1, zr15 b1 2 ⟨#[120]⟩ 1]⟩, ⟨some ⟨b5, 0, none⟩, 2, 2, [zr15 b3 1 ⟨#[97]⟩ 1, zr15 b4 2 ⟨#[120]⟩ 5]⟩]
theorem flat15 (b0 b1 b2 b3 b4 b5 : Nat) : ((ls15 b0 b1 b2 b3 b4 b5).map Le.Z).flatten.map Prod.snd = [rv15 1 ⟨#[120]⟩ 1, rv15 2 ⟨#[120]⟩ 1, rv15 1 ⟨#[97]⟩ 1, rv15 2 ⟨#[120]⟩ 5] := rfl
theorem allS15 (b0 b1 b2 b3 b4 b5 : Nat) : allS (ls15 b0 b1 b2 b3 b4 b5) = true := by
  rw [allS_iff]
  intro x hx
  unfold ls15 at hx
  simp only [List.mem_cons, List.not_mem_nil, or_false] at hx
  rcases hx with rfl | rfl
  · intro i hi
    have : i = 0 := by simp at hi; omega
    subst this
    exact cmp_alive.1
  · intro i hi
    have : i = 0 := by simp at hi; omega
    subst this
    exact cmp_alive.2
theorem lists15 (b0 b1 b2 b3 b4 b5 : Nat) : listsR (ls15 b0 b1 b2 b3 b4 b5) = ([rv15 1 ⟨#[97]⟩ 1, rv15 1 ⟨#[120]⟩ 1, rv15 2 ⟨#[120]⟩ 6], 0) := by
  unfold listsR
  rw [if_pos (allS15 ..), flat15, ref_alive]
theorem stats15 (b0 b1 b2 b3 b4 b5 : Nat) : statsN (ls15 b0 b1 b2 b3 b4 b5) = 4 ∧ statsK (ls15 b0 b1 b2 b3 b4 b5) = 3 := by
  unfold statsN statsK
  rw [if_pos (allS15 ..), if_pos (allS15 ..), flat15, keys_alive]
  exact ⟨rfl, rfl⟩
theorem okq15 (b0 b1 b2 b3 b4 b5 : Nat) : ∀ z ∈ ((ls15 b0 b1 b2 b3 b4 b5).map Le.Z).flatten, OkR 0 z.2 := fun z hz => by
  have h : z.2 ∈ ((ls15 b0 b1 b2 b3 b4 b5).map Le.Z).flatten.map Prod.snd := List.mem_map.2 ⟨z, hz, rfl⟩
  rw [flat15] at h
  simp only [List.mem_cons, List.not_mem_nil, or_false] at h
  rcases h with e | e | e | e <;> rw [e] <;> exact okR_rv15 _ _ _ (by decide)
theorem ls15_in {w W : World} {b0 b1 b2 b3 b4 b5 : Nat} (h0 : Row w (some ⟨b0, 0, none⟩) (texts [⟨#[120]⟩])) (h1 : Row w (some ⟨b1, 0, none⟩) (texts [⟨#[120]⟩])) (h3 : Row w (some ⟨b3, 0, none⟩) (texts [⟨#[97]⟩])) (h4 : Row w (some ⟨b4, 0, none⟩) (texts [⟨#[120]⟩]))
    (h2 : Row w (some ⟨b2, 0, none⟩) (cellsR [zr15 b0 1 ⟨#[120]⟩ 1, zr15 b1 2 ⟨#[120]⟩ 1])) (h5 : Row w (some ⟨b5, 0, none⟩) (cellsR [zr15 b3 1 ⟨#[97]⟩ 1, zr15 b4 2 ⟨#[120]⟩ 5])) (hb : Below w.heap.size w W) :
    LsIn (W.alloc (.cells #[.slice (some ⟨b2, 0, none⟩) 2 2, .slice (some ⟨b5, 0, none⟩) 2 2] 28)) (some ⟨W.heap.size, 0, none⟩) (ls15 b0 b1 b2 b3 b4 b5) := by
  have hb2 := bpush hb (.cells #[.slice (some ⟨b2, 0, none⟩) 2 2, .slice (some ⟨b5, 0, none⟩) 2 2] 28)
  refine ⟨Row.made rfl rfl, fun x hx => ?_, by show 2 ≤ 2000000; decide⟩
  unfold ls15 at hx
  simp only [List.mem_cons, List.not_mem_nil, or_false] at hx
  rcases hx with rfl | rfl
  · refine ⟨⟨h2.keep (Nat.le_refl _) hb2, fun z hz => ?_⟩, rfl, Nat.le_refl _, (by show 2 ≤ 9223372036854775807; decide), fun h => by cases h⟩
    simp only [List.mem_cons, List.not_mem_nil, or_false] at hz
    rcases hz with rfl | rfl
    · exact good_zr15 (h0.keep (Nat.le_refl _) hb2)
    · exact good_zr15 (h1.keep (Nat.le_refl _) hb2)
  · refine ⟨⟨h5.keep (Nat.le_refl _) hb2, fun z hz => ?_⟩, rfl, Nat.le_refl _, (by show 2 ≤ 9223372036854775807; decide), fun h => by cases h⟩
    simp only [List.mem_cons, List.not_mem_nil, or_false] at hz
    rcases hz with rfl | rfl
    · exact good_zr15 (h3.keep (Nat.le_refl _) hb2)
    · exact good_zr15 (h4.keep (Nat.le_refl _) hb2)
set_option maxRecDepth 100000 in
set_option maxHeartbeats 8000000 in
theorem alive_any (w : World) : Calls Try.prog 8 #[] w fun e w' => e = .returned (.bool true) ∧ Below w.heap.size w w' := by
  obtain ⟨W, hW⟩ : ∃ W, W = (((((w.alloc (.cells #[.string ⟨#[120]⟩] 9)).alloc (.cells #[.string ⟨#[120]⟩] 9)).alloc (.cells #[.int .i64 1, .slice (some ⟨w.heap.size, 0, none⟩) 1 1, .int .i64 1, .slice none 0 0, .int .i64 2, .slice (some ⟨w.heap.size + 1, 0, none⟩) 1 1, .int .i64 1, .slice none 0 0] 39)).alloc (.cells #[.string ⟨#[97]⟩] 9)).alloc (.cells #[.string ⟨#[120]⟩] 9)).alloc (.cells #[.int .i64 1, .slice (some ⟨w.heap.size + 1 + 1 + 1, 0, none⟩) 1 1, .int .i64 1, .slice none 0 0, .int .i64 2, .slice (some ⟨w.heap.size + 1 + 1 + 1 + 1, 0, none⟩) 1 1, .int .i64 5, .slice none 0 0] 39) := ⟨_, rfl⟩
  have hb : Below w.heap.size w W := by rw [hW]; exact bpush (bpush (bpush (bpush (bpush (bpush (Below.refl _ _) _) _) _) _) _) _
  have hR : ∀ W', Below W.heap.size W W' → LsIn (W'.alloc (.cells #[.slice (some ⟨w.heap.size + 1 + 1, 0, none⟩) 2 2, .slice (some ⟨w.heap.size + 1 + 1 + 1 + 1 + 1, 0, none⟩) 2 2] 28)) (some ⟨W'.heap.size, 0, none⟩) (ls15 w.heap.size (w.heap.size + 1) (w.heap.size + 1 + 1) (w.heap.size + 1 + 1 + 1) (w.heap.size + 1 + 1 + 1 + 1) (w.heap.size + 1 + 1 + 1 + 1 + 1)) := fun W' hW' => by
    have k : ∀ {a : World} {A : Option Addr} {xs : List Value}, Row a A xs → ∀ o, Row (a.alloc o) A xs := fun h o => h.keep (Nat.le_refl _) (bpush (Below.refl _ _) o)
    refine ls15_in (w := W) ?_ ?_ ?_ ?_ ?_ ?_ hW' <;> rw [hW]
    · exact k (k (k (k (k (Row.made rfl rfl) _) _) _) _) _
    · exact k (k (k (k (Row.made (by simp) rfl) _) _) _) _
    · exact k (k (Row.made (by simp) rfl) _) _
    · exact k (Row.made (by simp) rfl) _
    · exact k (k (k (Row.made (by simp) rfl) _) _) _
    · exact Row.made (by simp) rfl
  have HB := Lib.hid hb
  have HRR := Lib.hid hR
  have HW := Lib.hid hW
  have HSZ := Lib.hid (show w.heap.size ≤ W.heap.size from hb.size)
  obtain ⟨bb, hbb⟩ : ∃ bb, bb = w.heap.size := ⟨_, rfl⟩
  have HBB := Lib.hid hbb
  clear hb hR hW hbb
  go_enter Try.func8, Try.ntmps8
  go_upto_region 3 with fail
  rw [← HW.out]
  have hfl : ∀ b0 b1 b2 b3 b4 b5, ((ls15 b0 b1 b2 b3 b4 b5).map Le.Z).flatten.length ≤ 1000000 := fun b0 b1 b2 b3 b4 b5 => by show 4 ≤ 1000000; decide
  obtain ⟨b2, hb2⟩ : ∃ b2, b2 = w.heap.size + 1 + 1 := ⟨_, rfl⟩
  obtain ⟨b5, hb5⟩ : ∃ b5, b5 = w.heap.size + 1 + 1 + 1 + 1 + 1 := ⟨_, rfl⟩
  have HCL := Lib.hid (show ∀ W', Below W.heap.size W W' → Calls Try.prog 9 #[.slice (some ⟨W'.heap.size, 0, none⟩) 2 2] (W'.alloc (.cells #[.slice (some ⟨b2, 0, none⟩) 2 2, .slice (some ⟨b5, 0, none⟩) 2 2] 28)) (fun e w' => ∃ v Y, e = .returned (.tuple #[v, .int .i64 0]) ∧ Y.map Prod.snd = [rv15 1 ⟨#[97]⟩ 1, rv15 1 ⟨#[120]⟩ 1, rv15 2 ⟨#[120]⟩ 6] ∧ w'.ownsRow (W'.heap.size + 1) 39 4 v Y.length (cellsR Y) ∧ (∀ y ∈ Y, Owned (W'.heap.size + 1) w' y) ∧ Below W.heap.size W w') from fun W' hW' => by
    rw [hb2, hb5]
    refine (lists_any 0 (some ⟨W'.heap.size, 0, none⟩) 2 2 _ _ (HRR.out W' hW') rfl (by show 2 ≤ 1900000; decide) (okq15 _ _ _ _ _ _) (hfl _ _ _ _ _ _)).mono ?_
    rintro e w' ⟨v, Y, x, rfl, hl, ho, hy, hbb⟩
    rw [lists15] at hl
    obtain ⟨e1, e2⟩ := Prod.mk.inj hl
    subst e2
    have hsz : (W'.alloc (.cells #[.slice (some ⟨w.heap.size + 1 + 1, 0, none⟩) 2 2, .slice (some ⟨w.heap.size + 1 + 1 + 1 + 1 + 1, 0, none⟩) 2 2] 28)).heap.size = W'.heap.size + 1 := World.size_alloc _ _
    rw [hsz] at ho hy
    exact ⟨v, Y, rfl, e1.symm, ho, hy, (bpush hW' _).trans (hbb.mono (by rw [hsz]; have := hW'.size; omega))⟩)
  have HCS := Lib.hid (show ∀ W', Below W.heap.size W W' → Calls Try.prog 11 #[.slice (some ⟨W'.heap.size, 0, none⟩) 2 2] (W'.alloc (.cells #[.slice (some ⟨b2, 0, none⟩) 2 2, .slice (some ⟨b5, 0, none⟩) 2 2] 28)) (fun e w' => e = .returned (.tuple #[.int .i64 4, .int .i64 3]) ∧ Below (W'.heap.size + 1) (W'.alloc (.cells #[.slice (some ⟨b2, 0, none⟩) 2 2, .slice (some ⟨b5, 0, none⟩) 2 2] 28)) w') from fun W' hW' => by
    rw [hb2, hb5]
    refine (stats_any (some ⟨W'.heap.size, 0, none⟩) 2 2 _ _ (HRR.out W' hW') rfl (by show 2 ≤ 1900000; decide) (hfl _ _ _ _ _ _)).mono ?_
    rintro e w' ⟨rfl, hbb⟩
    rw [(stats15 _ _ _ _ _ _).1, (stats15 _ _ _ _ _ _).2]
    rw [World.size_alloc] at hbb
    exact ⟨rfl, hbb⟩)
  rw [← hb5, ← hb2]
  clear hfl hb2 hb5
  go_wp2_with (go_at_call 9; refine (HCL.out _ (Below.refl _ _)).mono ?_; rintro e w9 ⟨v, Y, rfl, hym, ho, hy, hb9⟩)
  have hyl : Y.length = 3 := by have := congrArg List.length hym; simpa using this
  obtain ⟨_, vA, vc, rfl, hvr, hvc, _, _⟩ := own_sliceR ho
  have q0 : 0 < Y.length := by omega
  have q2 : 2 < Y.length := by omega
  have hy0 : Y[0].2 = rv15 1 ⟨#[97]⟩ 1 := by
    have : (Y.map Prod.snd)[0]'(by simpa using q0) = rv15 1 ⟨#[97]⟩ 1 := by simp only [hym]; rfl
    simpa using this
  have hy2 : Y[2].2 = rv15 2 ⟨#[120]⟩ 6 := by
    have : (Y.map Prod.snd)[2]'(by simpa using q2) = rv15 2 ⟨#[120]⟩ 6 := by simp only [hym]; rfl
    simpa using this
  obtain ⟨gb, go, rfl, x0, x1, x2, x3⟩ := row4 hvr q0
  obtain ⟨gb', go', e', z0, z1, z2, z3⟩ := row4 hvr q2
  cases e'
  have hg0 := (hy Y[0] (List.getElem_mem q0)).good
  obtain ⟨⟨⟨D9, n9, c9, G9, gn9, gc9⟩, R9⟩, hz9⟩ : ∃ z, z = Y[0] := ⟨_, rfl⟩
  rw [← hz9] at x1 hy0 hg0
  simp only at hy0 x1
  subst hy0
  have hrd := hg0.rd
  have hnd : n9 = 1 := hg0.nd
  rcases hrd with h0 | ⟨db, dof, hD, hc⟩
  · simp [rv15, texts] at h0
  simp only at hD
  subst hD hnd
  have d0 := hc 0 (.string ⟨#[97]⟩) rfl
  rw [hy2] at z2
  simp only [rv15] at z2
  rw [hyl] at hvc ⊢
  have HB9 := Lib.hid hb9
  have HX := Lib.hid (And.intro x1 (And.intro z2 d0))
  clear hym ho hy hb9 hvr x0 x1 x2 x3 z0 z1 z2 z3 d0 hc q0 q2 hg0 hz9 hy2 hyl
  go_wp2_with (go_at_call 11; refine (HCS.out _ HB9.out).mono ?_; rintro e w8 ⟨rfl, hb8⟩; have HB8 := Lib.hid ((bpush (Below.refl w9.heap.size w9) (.cells #[.slice (some ⟨b2, 0, none⟩) 2 2, .slice (some ⟨b5, 0, none⟩) 2 2] 28) ).trans (hb8.mono (Nat.le_succ _))); clear hb8; obtain ⟨x1, z2, d0⟩ := HX.out; have x1 := cell_later HB8.out x1; have z2 := cell_later HB8.out z2; have d0 := cell_later HB8.out d0; simp only [Nat.zero_mul, Nat.add_zero] at x1 z2 d0)
  go_ret
  exact ⟨rfl, HB.out.trans ((HB9.out.trans (HB8.out.mono HB9.out.size)).mono HSZ.out)⟩
end Go.Proofs.Ytbccjkjibffbkaa
