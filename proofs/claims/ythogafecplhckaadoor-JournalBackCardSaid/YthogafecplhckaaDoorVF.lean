/- A new vault; what is left; the fuse is set; names. -/
import Derived.Test.YthogafecplhckaaDoorVE
import Derived.Test.YthogafecplhckaaDoorVS
namespace Go.Proofs.YthogafecplhckaaDoor
open Go.RowKit Go.Maps Go.Shelf
set_option linter.unusedSimpArgs false
set_option linter.unusedVariables false
def wrongR (x : Nat) : Bool := !((decide (97 ≤ x) && decide (x ≤ 122)) || (decide (48 ≤ x) && decide (x ≤ 57)) || x == 46)
set_option maxRecDepth 100000 in
set_option maxHeartbeats 4000000 in
theorem vwrong_any (x : Nat) (w : World) (hx : x ≤ 1114111) : Calls Tryd.prog 54 #[.int .i32 (x : Int)] w fun e w' => e = .returned (.bool (wrongR x)) ∧ w = w' := by
  obtain ⟨r, hr⟩ : ∃ r, r = wrongR x := ⟨_, rfl⟩
  rw [← hr]
  have HR := Lib.hid hr
  clear hr
  by_cases h1 : 97 ≤ x
  · have k1 : ((x : Int) ≥ 97) := by omega
    by_cases h2 : x ≤ 122
    · have k2 : ((x : Int) ≤ 122) := by omega
      obtain rfl : r = false := by rw [HR.out]; simp [wrongR, h1, h2]
      clear HR
      go_enter Tryd.func54, Tryd.ntmps54
      go_wp2_with fail
      go_ret
      exact ⟨rfl, rfl⟩
    · have k2 : ¬ ((x : Int) ≤ 122) := by omega
      have k3 : ((x : Int) ≥ 48) := by omega
      have k4 : ¬ ((x : Int) ≤ 57) := by omega
      have k5 : ((x : Int) == 46) = false := by simp; omega
      obtain rfl : r = true := by rw [HR.out]; simp [wrongR, h2]; omega
      clear HR
      go_enter Tryd.func54, Tryd.ntmps54
      go_wp2_with fail
      go_ret
      exact ⟨rfl, rfl⟩
  · have k1 : ¬ ((x : Int) ≥ 97) := by omega
    by_cases h3 : 48 ≤ x
    · have k3 : ((x : Int) ≥ 48) := by omega
      by_cases h4 : x ≤ 57
      · have k4 : ((x : Int) ≤ 57) := by omega
        obtain rfl : r = false := by rw [HR.out]; simp [wrongR, h3, h4]
        clear HR
        go_enter Tryd.func54, Tryd.ntmps54
        go_wp2_with fail
        go_ret
        exact ⟨rfl, rfl⟩
      · have k4 : ¬ ((x : Int) ≤ 57) := by omega
        have k5 : ((x : Int) == 46) = false := by simp; omega
        obtain rfl : r = true := by rw [HR.out]; simp [wrongR, h1, h4]; omega
        clear HR
        go_enter Tryd.func54, Tryd.ntmps54
        go_wp2_with fail
        go_ret
        exact ⟨rfl, rfl⟩
    · have k3 : ¬ ((x : Int) ≥ 48) := by omega
      by_cases h5 : x = 46
      · have k5 : ((x : Int) == 46) = true := by simp; omega
        obtain rfl : r = false := by rw [HR.out]; simp [wrongR, h5]
        clear HR h5
        go_enter Tryd.func54, Tryd.ntmps54
        go_wp2_with fail
        go_ret
        exact ⟨rfl, rfl⟩
      · have k5 : ((x : Int) == 46) = false := by simp; omega
        obtain rfl : r = true := by rw [HR.out]; simp [wrongR, h1, h3, h5]
        clear HR h5
        go_enter Tryd.func54, Tryd.ntmps54
        go_wp2_with fail
        go_ret
        exact ⟨rfl, rfl⟩
def nameB (s : ByteArray) : Bool := decide (s ≠ ⟨#[]⟩) && decide (s.size ≤ 12) && !decide (0 ≤ Lib.idxFunc wrongR true s)
theorem enter52 : ∀ args w, (callFunc 54 args).run Tryd.prog w = .ok (.enter 54 args) w := fun args w => by kernel_rfl
theorem pred52 (w : World) : PredGrows Tryd.prog 54 #[] wrongR w := fun W x hx hb => (vwrong_any x W hx).mono fun e w' ⟨he, hw⟩ => ⟨he, hw ▸ Below.refl _ _⟩
set_option maxRecDepth 100000 in
set_option maxHeartbeats 4000000 in
theorem maybe_any (s : ByteArray) (w : World) (hs : s.size ≤ 9223372036854775807) : Calls Tryd.prog 26 #[.string s] w fun e w' => e = .returned (.bool (nameB s)) ∧ Below w.heap.size w w' := by
  obtain ⟨r, hr⟩ : ∃ r, r = nameB s := ⟨_, rfl⟩
  rw [← hr]
  by_cases h0 : s = ⟨#[]⟩
  · obtain rfl : r = false := by rw [hr]; simp [nameB, h0]
    subst h0
    clear hr
    go_enter Tryd.func26, Tryd.ntmps26
    go_wp2_with fail
    go_ret
    exact ⟨rfl, Below.refl _ _⟩
  have k0 : (s.toList != []) = true := by
    have := str_ne_lit (l := []) h0
    simp only [bne, this]; rfl
  have k0' : ¬ (s.toList = []) := by
    have := str_ne_lit (l := []) h0
    simpa using this
  have k0e : s.toList.isEmpty = false := by cases h : s.toList with
    | nil => exact absurd h k0'
    | cons a l => rfl
  obtain ⟨z, hz⟩ : ∃ z, s.size = z := ⟨_, rfl⟩
  by_cases h1 : z ≤ 12
  · obtain ⟨q, hq⟩ : ∃ q, q = decide (0 ≤ Lib.idxFunc wrongR true s) := ⟨_, rfl⟩
    have hc := Tryd.strings_ContainsFunc_grows 54 #[] enter52 wrongR s w (pred52 w)
    rw [← hq] at hc
    have HC := Lib.hid hc
    have HR := Lib.hid (show r = !q by rw [hr, hq]; simp [nameB, h0, hz, h1])
    have d1 : decide ((z : Int) ≤ 12) = true := by simp; omega
    clear hr hq hc h0 h1
    cases q with
    | true =>
      obtain rfl : r = false := HR.out
      go_enter Tryd.func26, Tryd.ntmps26
      go_wp2_with (go_at_call 55; refine HC.out.mono ?_; rintro e w1 ⟨rfl, hb⟩; have HB := Lib.hid hb; clear hb)
      go_ret
      exact ⟨rfl, HB.out⟩
    | false =>
      obtain rfl : r = true := HR.out
      go_enter Tryd.func26, Tryd.ntmps26
      go_wp2_with (go_at_call 55; refine HC.out.mono ?_; rintro e w1 ⟨rfl, hb⟩; have HB := Lib.hid hb; clear hb)
      go_ret
      exact ⟨rfl, HB.out⟩
  · obtain rfl : r = false := by rw [hr]; simp [nameB, hz]; omega
    have d1 : decide ((z : Int) ≤ 12) = false := by simp; omega
    clear hr h0 h1
    go_enter Tryd.func26, Tryd.ntmps26
    go_wp2_with fail
    go_ret
    exact ⟨rfl, Below.refl _ _⟩
set_option maxRecDepth 100000 in
set_option maxHeartbeats 4000000 in
theorem free_any (a : Nat) (V : VZ) (w : World) (h : VCore w a V) : Calls Tryd.prog 28 #[.pointer (some ⟨a, 0, none⟩)] w fun e w' => e = .returned (.int .i64 ((V.room : Int) - (usedF V.F : Int))) ∧ Below w.heap.size w w' := by
  have c0 := h.blk.cell 0
  have c1 := h.blk.cell 1
  simp at c0 c1
  have hr := h.room
  have hu := h.used
  obtain ⟨u, hu2⟩ : ∃ u : Nat, u = usedF V.F := ⟨_, rfl⟩
  obtain ⟨q, hq⟩ : ∃ q : Nat, q = V.room := ⟨_, rfl⟩
  rw [← hu2] at c1 hu ⊢
  rw [← hq] at c0 hr ⊢
  have hw : IntKind.i64.wrap ((q : Int) - (u : Int)) = (q : Int) - (u : Int) := IntWalk.i64_in _ (by omega)
  clear h hu2 hq
  go_enter Tryd.func28, Tryd.ntmps28
  go_upto_region 3 with fail
  go_quiet (fail)
  go_wp2_with fail
  go_ret
  exact ⟨rfl, below_drewN (Below.refl _ _) _⟩
def newZ (room b : Nat) : VZ := ⟨room, false, 0, b, []⟩
def NewPost (w : World) (room : Int) (e : Ending) (w' : World) : Prop :=
  ((room < 0 ∨ 16777216 < room) ∧ e = .returned (.tuple #[.pointer none, .int .i64 1]) ∧ w = w') ∨
  (∃ r : Nat, room = (r : Int) ∧ r ≤ 16777216 ∧ e = .returned (.tuple #[.pointer (some ⟨w.heap.size + 1, 0, none⟩), .int .i64 0]) ∧ VCore w' (w.heap.size + 1) (newZ r w.heap.size) ∧ Below w.heap.size w w')
set_option maxRecDepth 100000 in
set_option maxHeartbeats 4000000 in
theorem new_any (room : Int) (w : World) (h1 : -9223372036854775808 ≤ room) (h2 : room ≤ 9223372036854775807) : Calls Tryd.prog 9 #[.int .i64 room] w (NewPost w room) := by
  have hmm := @run_makeMap Tryd.prog
  by_cases hl : room < 0
  · have k1 : decide (room < 0) = true := by simp; omega
    go_enter Tryd.func9, Tryd.ntmps9
    go_wp2_with fail
    go_ret2
    exact .inl ⟨.inl hl, rfl, rfl⟩
  by_cases hg : 16777216 < room
  · have k1 : decide (room < 0) = false := by simp; omega
    have k2 : decide (16777216 < room) = true := by simp; omega
    go_enter Tryd.func9, Tryd.ntmps9
    go_wp2_with fail
    go_ret2
    exact .inl ⟨.inr hg, rfl, rfl⟩
  · obtain ⟨r, rfl⟩ : ∃ r : Nat, room = (r : Int) := ⟨room.toNat, by omega⟩
    have hr : r ≤ 16777216 := by omega
    have k1 : decide ((r : Int) < 0) = false := by simp
    have k2 : decide ((16777216 : Int) < (r : Int)) = false := by simp; omega
    go_enter Tryd.func9, Tryd.ntmps9
    go_wp2_with fail
    go_ret2
    refine Or.inr ⟨r, rfl, hr, rfl, ⟨?_, ⟨0, ?_⟩, List.Pairwise.nil, Nat.zero_le _, hr, Nat.zero_le _, Nat.zero_le _⟩, bpush (bpush (Below.refl _ _) _) _⟩
    · have h5 := Blk.new (w.alloc (.map #[] 0)) 66 #[.int .i64 (r : Int), .int .i64 0, .map (some w.heap.size), .bool false, .int .i64 0]
      have h6 : (w.alloc (.map #[] 0)).heap.size = w.heap.size + 1 := by simp
      rw [h6] at h5
      exact h5
    · exact (World.ownsMap_made w Tryd.prog 9 heldR).alloc _
def armZ (V : VZ) (n : Nat) : VZ := { V with armed := true, fuse := n }
def ArmPost (w : World) (a : Nat) (V : VZ) (n : Int) (e : Ending) (w' : World) : Prop :=
  (n < 0 ∧ e = .returned (.int .i64 1) ∧ w = w') ∨ (∃ k : Nat, n = (k : Int) ∧ e = .returned (.int .i64 0) ∧ VCore w' a (armZ V k) ∧ Fr (fun i => i = a) w w')
set_option maxRecDepth 100000 in
set_option maxHeartbeats 4000000 in
theorem arm_any (a : Nat) (V : VZ) (n : Int) (w : World) (h : VCore w a V) (h2 : n ≤ 9223372036854775807) : Calls Tryd.prog 14 #[.pointer (some ⟨a, 0, none⟩), .int .i64 n] w (ArmPost w a V n) := by
  by_cases hl : n < 0
  · have k1 : decide (n < 0) = true := by simp; omega
    clear h
    go_enter Tryd.func14, Tryd.ntmps14
    go_wp2_with fail
    go_ret
    exact Or.inl ⟨hl, rfl, rfl⟩
  · obtain ⟨k, rfl⟩ : ∃ k : Nat, n = (k : Int) := ⟨n.toNat, by omega⟩
    have k1 : decide ((k : Int) < 0) = false := by simp
    have c3 := h.blk.cell 3
    have c4 := h.blk.cell 4
    have f3 := h.blk.frozen 3
    have f4 := h.blk.frozen 4
    simp at c3 c4
    have h3 := h.set 3 (.bool true) { V with armed := true } rfl rfl rfl h.room h.fuse
    have h4 := h3.set 4 (.int .i64 (k : Int)) (armZ V k) rfl rfl rfl h.room (by show k ≤ _; omega)
    have HV := Lib.hid h4
    have HF := Lib.hid (show Fr (fun i => i = a) w ((w.setCell ⟨a, 3, none⟩ (.bool true)).setCell ⟨a, 4, none⟩ (.int .i64 (k : Int))) from ((Fr.refl (fun i => i = a) w).set_ (.inl (show a = a from rfl)) _).set_ (.inl (show a = a from rfl)) _)
    clear h h3 h4
    go_enter Tryd.func14, Tryd.ntmps14
    go_wp2_with fail
    go_ret
    exact Or.inr ⟨k, rfl, rfl, HV.out, HF.out⟩
end Go.Proofs.YthogafecplhckaaDoor
