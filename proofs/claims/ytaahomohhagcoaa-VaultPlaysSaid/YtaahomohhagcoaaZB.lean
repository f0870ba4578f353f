/- The document's Name, burnt, Free, New. -/
import Derived.Test.YtaahomohhagcoaaZA
import Derived.Laws.RangeString
import Derived.Laws.RangeAny
namespace Go.Proofs.Ytaahomohhagcoaa
open Go.RowKit Go.Maps Go.Shelf Go.Lib
set_option linter.unusedSimpArgs false
set_option linter.unusedVariables false
theorem wrong_high {x : Nat} (h : 128 ≤ x) : wrongR x = true := by unfold wrongR; simp; omega
theorem idx_right (s : ByteArray) : ∀ f pos : Nat, s.size ≤ pos + f → ((∀ (i : Nat) (h : i < s.size), pos ≤ i → wrongR (s[i]'h).toNat = false) ↔ ¬ 0 ≤ Lib.idxFuncFrom wrongR true s f pos) := by
  intro f
  induction f with
  | zero =>
    intro pos h
    constructor
    · intro _; show ¬ 0 ≤ (-1 : Int); omega
    · intro _ i hi hp; omega
  | succ f ih =>
    intro pos h
    unfold Lib.idxFuncFrom
    by_cases hp : pos < s.size
    · rw [if_pos hp]
      by_cases ha : (s[pos]'hp).toNat < 128
      · rw [decode_ascii s pos hp ha]
        by_cases hw : wrongR (s[pos]'hp).toNat = true
        · rw [if_pos hw]
          constructor
          · intro hall
            rw [hall pos hp (Nat.le_refl _)] at hw; cases hw
          · intro h0; omega
        · rw [if_neg hw, ← ih (pos + 1) (by omega)]
          constructor
          · intro hall i hi hpi; exact hall i hi (by omega)
          · intro hall i hi hpi
            by_cases e : i = pos
            · subst e; simpa using hw
            · exact hall i hi (by omega)
      · have hh := decode_high s pos hp (by omega)
        rw [if_pos (wrong_high hh.1)]
        constructor
        · intro hall
          have := hall pos hp (Nat.le_refl _)
          rw [wrong_high (by omega)] at this; cases this
        · intro h0; omega
    · rw [if_neg hp]
      constructor
      · intro _; omega
      · intro _ i hi hpi; omega
theorem nameB_iff (s : ByteArray) : nameB s = true ↔ 1 ≤ s.size ∧ s.size ≤ 12 ∧ ∀ (i : Nat) (h : i < s.size), wrongR (s[i]'h).toNat = false := by
  unfold nameB
  have h1 := idx_right s s.size 0 (by omega)
  have e0 : s ≠ ⟨#[]⟩ ↔ 1 ≤ s.size := by
    constructor
    · intro h
      rcases Nat.eq_zero_or_pos s.size with h0 | h0
      · exact absurd (by cases s; rename_i d; congr 1; exact Array.eq_empty_of_size_eq_zero h0) h
      · exact h0
    · rintro h rfl; exact absurd h (by decide)
  simp only [Bool.and_eq_true, decide_eq_true_eq, Bool.not_eq_true', decide_eq_false_iff_not, e0]
  unfold Lib.idxFunc
  rw [← h1, and_assoc]
  constructor
  · rintro ⟨a, b, c⟩; exact ⟨a, b, fun i hi => c i hi (Nat.zero_le _)⟩
  · rintro ⟨a, b, c⟩; exact ⟨a, b, fun i hi _ => c i hi⟩
set_option maxRecDepth 100000 in
set_option maxHeartbeats 8000000 in
theorem name_any (s : ByteArray) (w : World) (hs : s.size ≤ 9223372036854775807) : Calls Try.prog 48 #[.string s] w fun e w' => e = .returned (.bool (nameB s)) ∧ w = w' := by
  obtain ⟨q, hq⟩ : ∃ q, q = nameB s := ⟨_, rfl⟩
  rw [← hq]
  have HQ := Lib.hid (show q = true ↔ 1 ≤ s.size ∧ s.size ≤ 12 ∧ ∀ (i : Nat) (h : i < s.size), wrongR (s[i]'h).toNat = false by rw [hq]; exact nameB_iff s)
  obtain ⟨z, hz⟩ : ∃ z, s.size = z := ⟨_, rfl⟩
  have HZ := Lib.hid hz
  clear hq
  go_enter Try.func48, Try.ntmps48
  go_wp2_with fail
  go_loop [3] (fun i => ∃ k : Nat, k ≤ z ∧ i = .int .i64 k ∧ Hid (∀ (i : Nat) (h : i < s.size), i < k → wrongR (s[i]'h).toNat = false)) (fun i => z - (intOf i).toNat)
  case atStart => exact ⟨0, Nat.zero_le _, rfl, Lib.hid (fun i h hi => absurd hi (Nat.not_lt_zero _))⟩
  case round =>
    obtain ⟨k, hk, rfl, HAL⟩ := hrel
    by_cases hlt : k < z
    · have hki : (k : Int) < (z : Int) := by omega
      have hks : k < s.size := by omega
      have hk0 : (0 : Int) ≤ (k : Int) := by omega
      obtain ⟨x, hx⟩ : ∃ x, (s[k]'hks).toNat = x := ⟨_, rfl⟩
      have HNX := Lib.hid (show wrongR x = false → ∀ (i : Nat) (h : i < s.size), i < k + 1 → wrongR (s[i]'h).toNat = false from fun h i hi hik => by
        by_cases e : i = k
        · subst e; rw [hx]; exact h
        · exact HAL.out i hi (by omega))
      have HNB := Lib.hid (show wrongR x = true → q = false from fun h => by
        rw [Bool.eq_false_iff]
        intro hq
        have := (HQ.out.1 hq).2.2 k hks
        rw [hx, h] at this; cases this)
      have hxb : x ≤ 255 := by rw [← hx]; have := (s[k]'hks).toNat_lt; omega
      go_upto_region 5 with fail
      try rw [hx]
      clear hx hlt
      by_cases hx1 : 97 ≤ x ∧ x ≤ 122
      · have m0 : ¬ (x : Int) < 97 := by omega
        have m1 : ¬ 122 < (x : Int) := by omega
        have HWR := Lib.hid (show wrongR x = false by unfold wrongR; simp; omega)
        clear hx1
        go_wp2_with fail
        go_round
        case rel => exact ⟨k + 1, by omega, by go_num, Lib.hid (HNX.out HWR.out)⟩
        case measure => simp [intOf]; omega
      by_cases hx2 : 48 ≤ x ∧ x ≤ 57
      · have m0 : (x : Int) < 97 := by omega
        have m1 : ¬ (x : Int) < 48 := by omega
        have m2 : ¬ 57 < (x : Int) := by omega
        have HWR := Lib.hid (show wrongR x = false by unfold wrongR; simp; omega)
        clear hx1 hx2
        go_wp2_with fail
        go_round
        case rel => exact ⟨k + 1, by omega, by go_num, Lib.hid (HNX.out HWR.out)⟩
        case measure => simp [intOf]; omega
      by_cases hx3 : x = 46
      · have m0 : (x : Int) < 97 := by omega
        have m1 : (x : Int) < 48 := by omega
        have m2 : ((x : Int) == 46) = true := by simp; omega
        have HWR := Lib.hid (show wrongR x = false by unfold wrongR; simp; omega)
        clear hx1 hx2 hx3
        go_wp2_with fail
        go_round
        case rel => exact ⟨k + 1, by omega, by go_num, Lib.hid (HNX.out HWR.out)⟩
        case measure => simp [intOf]; omega
      by_cases hx4 : x < 48
      · have m0 : (x : Int) < 97 := by omega
        have m1 : (x : Int) < 48 := by omega
        have m2 : ((x : Int) == 46) = false := by simp; omega
        have m3 : ((x : Int) != 46) = true := by simp; omega
        have HWR := Lib.hid (show wrongR x = true by unfold wrongR; simp; omega)
        clear hx1 hx2 hx3 hx4
        obtain rfl : q = false := HNB.out HWR.out
        go_wp2_with fail
        go_ret
        exact ⟨rfl, rfl⟩
      by_cases hx5 : x < 97
      · have m0 : (x : Int) < 97 := by omega
        have m1 : ¬ (x : Int) < 48 := by omega
        have m2 : 57 < (x : Int) := by omega
        have m3 : ((x : Int) == 46) = false := by simp; omega
        have m4 : ((x : Int) != 46) = true := by simp; omega
        have HWR := Lib.hid (show wrongR x = true by unfold wrongR; simp; omega)
        clear hx1 hx2 hx3 hx4 hx5
        obtain rfl : q = false := HNB.out HWR.out
        go_wp2_with fail
        go_ret
        exact ⟨rfl, rfl⟩
      have m0 : ¬ (x : Int) < 97 := by omega
      have m1 : 122 < (x : Int) := by omega
      have m2 : ¬ (x : Int) < 48 := by omega
      have m3 : 57 < (x : Int) := by omega
      have m4 : ((x : Int) == 46) = false := by simp; omega
      have m5 : ((x : Int) != 46) = true := by simp; omega
      have HWR := Lib.hid (show wrongR x = true by unfold wrongR; simp; omega)
      clear hx1 hx2 hx3 hx4 hx5
      obtain rfl : q = false := HNB.out HWR.out
      go_wp2_with fail
      go_ret
      exact ⟨rfl, rfl⟩
    · obtain rfl : k = z := by omega
      have hge : ¬ (k : Int) < (k : Int) := by omega
      have HAL2 := Lib.hid (show ∀ (i : Nat) (h : i < s.size), wrongR (s[i]'h).toNat = false from fun i h => HAL.out i h (by have := HZ.out; omega))
      clear hlt
      by_cases h1 : 1 ≤ k
      · have m1 : (1 : Int) ≤ (k : Int) := by omega
        by_cases h2 : k ≤ 12
        · have m2 : (k : Int) ≤ 12 := by omega
          obtain rfl : q = true := HQ.out.2 ⟨by rw [HZ.out]; exact h1, by rw [HZ.out]; exact h2, HAL2.out⟩
          clear h1 h2
          go_wp2_with fail
          go_ret
          exact ⟨rfl, rfl⟩
        · have m2 : ¬ (k : Int) ≤ 12 := by omega
          obtain rfl : q = false := by rw [Bool.eq_false_iff]; intro hq; have := (HQ.out.1 hq).2.1; rw [HZ.out] at this; exact h2 this
          clear h1 h2
          go_wp2_with fail
          go_ret
          exact ⟨rfl, rfl⟩
      · have m1 : ¬ (1 : Int) ≤ (k : Int) := by omega
        obtain rfl : q = false := by rw [Bool.eq_false_iff]; intro hq; have := (HQ.out.1 hq).1; rw [HZ.out] at this; exact h1 this
        clear h1
        go_wp2_with fail
        go_ret
        exact ⟨rfl, rfl⟩
theorem act_unb {Q : VZ} (h : Q.armed = false) : actZ Q = Q := by unfold actZ; rw [if_neg (by rw [h]; simp)]
def fuseI (P : VZ) : Int := if P.armed = true then (P.fuse : Int) else -1
structure RIs (R : RV) (P : VZ) : Prop where
  room : R.room = P.room
  fuse : R.fuse = fuseI P
  F : R.F.map normF = P.F
/-- What a vault's state keeps. -/
structure PInv (P : VZ) : Prop where
  one : oneEach P.F
  used : usedF P.F ≤ P.room
  room : P.room ≤ 16777216
  len : P.F.length ≤ 200
  fuse : P.fuse ≤ 9223372036854775807
  name : ∀ f ∈ P.F, f.name.size ≤ 12
  safe : ∀ f ∈ P.F, f.safe ≤ f.n
theorem VRep.inv {w : World} {B a : Nat} {V : VZ} (h : VRep w B a V) : PInv (normZ V) :=
  ⟨by show oneEach (V.F.map normF); unfold oneEach; rw [List.pairwise_map]; exact h.core.one, by show usedF (V.F.map normF) ≤ V.room; rw [norm_used]; exact h.used, h.core.room, by show (V.F.map normF).length ≤ 200; rw [List.length_map]; exact h.len, h.core.fuse, fun f hf => by
    obtain ⟨g, hg, rfl⟩ := List.mem_map.1 hf; exact h.name g hg, fun f hf => by
    obtain ⟨g, hg, rfl⟩ := List.mem_map.1 hf; exact h.safe g hg⟩
theorem RIs.one {R : RV} {P : VZ} (h : RIs R P) (hp : PInv P) : oneEach R.F := by
  have := hp.one
  rw [← h.F] at this
  unfold oneEach at this
  rw [List.pairwise_map] at this; exact this
theorem RIs.used {R : RV} {P : VZ} (h : RIs R P) : usedF R.F = usedF P.F := by rw [← h.F, norm_used]
theorem RIs.len {R : RV} {P : VZ} (h : RIs R P) : R.F.length = P.F.length := by rw [← h.F, List.length_map]
theorem RIs.look {R : RV} {P : VZ} (h : RIs R P) (s : ByteArray) : lookF P.F s = (lookF R.F s).map normF := by rw [← h.F, norm_look]
theorem RRep.set_fuse {w : World} {a : Nat} {R : RV} (h : RRep w a R) (x : Int) : RRep (w.setCell ⟨a, 1, none⟩ (.int .i64 x)) a { R with fuse := x } := by
  have hf : Fr (fun i => i = a) w (w.setCell ⟨a, 1, none⟩ (.int .i64 x)) := (Fr.refl (fun i => i = a) w).set_ (.inl (show a = a from rfl)) _
  have hb := h.blk.set_ 1 (.int .i64 x)
  refine ⟨hb, h.row.fr' hf fun hne b o e => h.far b (.inl ⟨fun e2 => hne (by rw [e2]; rfl), o, e⟩), h.len, h.cap, h.nil, fun f hfm => (h.files f hfm).fr hf fun hne b o e => h.far b (.inr ⟨f, hfm, hne, o, e⟩), h.far⟩
def BurntP (w : World) (a : Nat) (R : RV) (P : VZ) (e : Ending) (w' : World) : Prop := e = .returned (.bool (brkZ (actZ P))) ∧ RIs { R with fuse := fuseI (actZ P) } (actZ P) ∧ RRep w' a { R with fuse := fuseI (actZ P) } ∧ Fr (fun i => i = a) w w'
set_option maxRecDepth 100000 in
set_option maxHeartbeats 8000000 in
theorem burnt_any (a : Nat) (R : RV) (P : VZ) (w : World) (h : RRep w a R) (hp : RIs R P) (hi : P.fuse ≤ 9223372036854775807) : Calls Try.prog 49 #[.pointer (some ⟨a, 0, none⟩)] w (BurntP w a R P) := by
  have HH := Lib.hid h
  have HP := Lib.hid hp
  have hb := h.blk.cell 1
  have hfz := h.blk.frozen 1
  simp at hb
  rw [hp.fuse] at hb
  have hnow := h.set_fuse
  have HS := Lib.hid h.set_fuse
  clear hnow
  by_cases ha : P.armed = true
  · rcases Nat.eq_zero_or_pos P.fuse with h0 | h0
    · have e1 : fuseI P = 0 := by unfold fuseI; rw [if_pos ha, h0]; rfl
      have e2 : actZ P = P := by unfold actZ; rw [if_neg (by omega)]
      have e3 : brkZ P = true := by unfold brkZ; rw [ha, h0]; rfl
      have HQ := Lib.hid (show BurntP w a R P (.returned (.bool true)) w from ⟨by rw [e2, e3], by rw [e2, ← HP.out.fuse]; exact HP.out, by rw [e2, ← HP.out.fuse]; exact HH.out, Fr.refl _ _⟩)
      rw [e1] at hb
      clear h hp e1 e2 e3 ha h0
      go_enter Try.func49, Try.ntmps49
      go_wp2_with fail
      go_ret
      exact HQ.out
    · obtain ⟨x, hx⟩ : ∃ x : Nat, x = P.fuse - 1 := ⟨_, rfl⟩
      have e1 : fuseI P = (x : Int) + 1 := by unfold fuseI; rw [if_pos ha]; omega
      have e2 : actZ P = { P with fuse := x } := by unfold actZ; rw [if_pos ⟨ha, h0⟩, hx]
      have e4 : fuseI (actZ P) = (x : Int) := by rw [e2]; unfold fuseI; rw [if_pos ha]
      obtain ⟨q, hq⟩ : ∃ q, q = brkZ (actZ P) := ⟨_, rfl⟩
      have e3 : q = decide (x = 0) := by rw [hq, e2]; unfold brkZ; rw [ha]; simp; rfl
      obtain ⟨w2, hw2⟩ : ∃ w2, w2 = w.setCell ⟨a, 1, none⟩ (.int .i64 (x : Int)) := ⟨_, rfl⟩
      have hs2 := h.set_fuse (x : Int)
      rw [← hw2] at hs2
      have hf2 : Fr (fun i => i = a) w w2 := by rw [hw2]; exact (Fr.refl (fun i => i = a) w).set_ (.inl (show a = a from rfl)) _
      have c2 : w2.cell? ⟨a, 1, none⟩ = some (.int .i64 (x : Int)) := by simpa using hs2.blk.cell 1
      have HQ := Lib.hid (show BurntP w a R P (.returned (.bool q)) w2 from ⟨by rw [hq], by rw [e4]; exact ⟨by rw [e2]; exact HP.out.room, by rw [e4], by rw [e2]; exact HP.out.F⟩, by rw [e4]; exact hs2, hf2⟩)
      have HW2 := Lib.hid hw2
      rw [e1] at hb
      have hx9 : (x : Int) + 1 ≤ 9223372036854775807 := by omega
      have hx0 : (0 : Int) < (x : Int) + 1 := by omega
      clear h hp e1 e2 e4 ha h0 hx hq hs2 hf2 hw2
      by_cases hz : x = 0
      · subst hz
        obtain rfl : q = true := by rw [e3]; rfl
        clear e3
        go_enter Try.func49, Try.ntmps49
        go_upto_region 3 with fail
        have e : (w.setCell ⟨a, 1, none⟩ (.int .i64 0)) = w2 := HW2.out.symm
        simp only [e]
        go_wp2_with fail
        go_ret
        exact HQ.out
      · obtain rfl : q = false := by rw [e3]; simp [hz]
        have hz2 : ((x : Int) == 0) = false := by simp; omega
        clear e3
        go_enter Try.func49, Try.ntmps49
        go_upto_region 3 with fail
        rw [← HW2.out]
        go_wp2_with fail
        go_ret
        exact HQ.out
  · have ha2 : P.armed = false := by simpa using ha
    have e1 : fuseI P = -1 := by unfold fuseI; rw [if_neg ha]
    have e2 : actZ P = P := act_unb ha2
    have e3 : brkZ P = false := by unfold brkZ; rw [ha2]; rfl
    have HQ := Lib.hid (show BurntP w a R P (.returned (.bool false)) w from ⟨by rw [e2, e3], by rw [e2, ← HP.out.fuse]; exact HP.out, by rw [e2, ← HP.out.fuse]; exact HH.out, Fr.refl _ _⟩)
    rw [e1] at hb
    clear h hp e1 e2 e3 ha ha2
    go_enter Try.func49, Try.ntmps49
    go_wp2_with fail
    go_ret
    exact HQ.out
theorem used_tk {F : List FZ} {j : Nat} (h : j < F.length) : usedF (F.take (j + 1)) = usedF (F.take j) + F[j].n := by
  rw [take_snoc _ _ h]; unfold usedF; rw [List.map_append, List.sum_append]; simp
theorem used_tk_le (F : List FZ) (j : Nat) : usedF (F.take j) ≤ usedF F := by
  have h : usedF F = usedF (F.take j) + usedF (F.drop j) := by
    unfold usedF
    rw [← List.sum_append, ← List.map_append, List.take_append_drop]
  omega
set_option maxRecDepth 100000 in
set_option maxHeartbeats 8000000 in
theorem rfree_any (a : Nat) (R : RV) (w : World) (h : RRep w a R) (hu : usedF R.F ≤ R.room) (hr : R.room ≤ 16777216) (hl : R.F.length ≤ 1000000) (x : Int) (hx : x = (R.room : Int) - (usedF R.F : Int)) : Calls Try.prog 39 #[.pointer (some ⟨a, 0, none⟩)] w fun e w' => e = .returned (.int .i64 x) ∧ w = w' := by
  have HH := Lib.hid h
  have HX := Lib.hid hx
  have HU := Lib.hid hu
  have c0 := h.blk.cell 0
  have c2 := h.blk.cell 2
  simp at c0 c2
  obtain ⟨n, hn⟩ : ∃ n, n = R.n := ⟨_, rfl⟩
  have hcap : n ≤ R.c := by rw [hn]; exact h.cap
  have HN := Lib.hid (show n = R.F.length by rw [hn]; exact h.len)
  have hn2 : n ≤ 1000000 := by rw [hn, h.len]; exact hl
  obtain ⟨r, hrr⟩ : ∃ r, r = R.room := ⟨_, rfl⟩
  have HR := Lib.hid hrr
  rw [← hn] at c2
  rw [← hrr] at c0 hr
  clear h hx hu hn hl hrr
  go_enter Try.func39, Try.ntmps39
  go_wp2_with fail
  go_loop [3, 4] (fun v3 i => ∃ k u : Nat, k ≤ n ∧ i = .int .i64 k ∧ v3 = .int .i64 ((r : Int) - (u : Int)) ∧ Hid (u = usedF (R.F.take k)) ∧ u ≤ r) (fun _ i => n - (intOf i).toNat)
  case atStart => exact ⟨0, 0, Nat.zero_le _, rfl, by simp, Lib.hid rfl, Nat.zero_le _⟩
  case round =>
    obtain ⟨k, u, hk, rfl, rfl, HT, hur⟩ := hrel
    by_cases hlt : k < n
    · have hkz : k < R.F.length := by have := HN.out; omega
      have hki : (k : Int) < (n : Int) := by omega
      have hk0 : (0 : Int) ≤ (k : Int) := by omega
      obtain ⟨b, off, hAe, _, d1, _⟩ := file_cells HH.out.row hkz
      rw [hAe] at c2
      obtain ⟨f, hf⟩ : ∃ f, f = R.F[k] := ⟨_, rfl⟩
      rw [← hf] at d1
      have hus := used_tk hkz
      rw [← hf, ← HT.out] at hus
      have hle := used_tk_le R.F (k + 1)
      have hsum : u + f.n ≤ r := by have := HU.out; have := HR.out; omega
      have hwr : IntKind.i64.wrap ((r : Int) - (u : Int) - (f.n : Int)) = (r : Int) - ((u + f.n : Nat) : Int) := by rw [IntWalk.i64_in _ (by omega)]; omega
      have HUS := Lib.hid hus
      clear hf hus hle hlt
      go_wp2_with fail
      go_round
      case rel => exact ⟨k + 1, u + f.n, by omega, by go_num, by first | rfl | (congr 1; omega) | simp; omega, Lib.hid HUS.out.symm, hsum⟩
      case measure => simp [intOf]; omega
    · obtain rfl : k = n := by omega
      have hge : ¬ (k : Int) < (k : Int) := by omega
      have HE := Lib.hid (show x = (r : Int) - (u : Int) by
        have h := HT.out
        rw [List.take_of_length_le (by have := HN.out; omega)] at h
        rw [HX.out, HR.out, h])
      clear hlt
      go_wp2_with fail
      go_ret
      exact ⟨by rw [HE.out]; rfl, rfl⟩
def rnew (r : Nat) : RV := ⟨r, -1, none, 0, 0, []⟩
def RNewP (w : World) (room : Int) (e : Ending) (w' : World) : Prop :=
  ((room < 0 ∨ 16777216 < room) ∧ e = .returned (.tuple #[.pointer none, .int .i64 1]) ∧ w = w') ∨
  (∃ r : Nat, room = (r : Int) ∧ r ≤ 16777216 ∧ e = .returned (.tuple #[.pointer (some ⟨w.heap.size, 0, none⟩), .int .i64 0]) ∧ RRep w' w.heap.size (rnew r) ∧ Below w.heap.size w w')
set_option maxRecDepth 100000 in
set_option maxHeartbeats 8000000 in
theorem rnew_any (room : Int) (w : World) (h1 : -9223372036854775808 ≤ room) (h2 : room ≤ 9223372036854775807) : Calls Try.prog 10 #[.int .i64 room] w (RNewP w room) := by
  by_cases hl : room < 0
  · have k1 : decide (room < 0) = true := by simp; omega
    go_enter Try.func10, Try.ntmps10
    go_wp2_with fail
    go_ret2
    exact .inl ⟨.inl hl, rfl, rfl⟩
  by_cases hg : 16777216 < room
  · have k1 : decide (room < 0) = false := by simp; omega
    have k2 : decide (16777216 < room) = true := by simp; omega
    go_enter Try.func10, Try.ntmps10
    go_wp2_with fail
    go_ret2
    exact .inl ⟨.inr hg, rfl, rfl⟩
  obtain ⟨r, rfl⟩ : ∃ r : Nat, room = (r : Int) := ⟨room.toNat, by omega⟩
  have hr : r ≤ 16777216 := by omega
  have k1 : decide ((r : Int) < 0) = false := by simp
  have k2 : decide (16777216 < (r : Int)) = false := by simp; omega
  have HR := Lib.hid hr
  clear hl hg h1 h2 hr
  go_enter Try.func10, Try.ntmps10
  go_wp2_with fail
  go_ret2
  refine .inr ⟨r, rfl, HR.out, rfl, ⟨?_, .inl rfl, rfl, Nat.le_refl _, fun _ => rfl, (fun f hf => by cases hf), fun i hi => ?_⟩, bpush (Below.refl _ _) _⟩
  · exact Blk.new _ _ _
  · rcases hi with ⟨h, _⟩ | ⟨f, hf, _⟩
    · exact absurd rfl h
    · cases hf
end Go.Proofs.Ytaahomohhagcoaa
