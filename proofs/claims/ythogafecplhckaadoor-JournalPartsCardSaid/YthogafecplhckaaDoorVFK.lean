/- A new vault; what is left; the fuse is set; names. A vault with its files' bytes; bytes are appended. What a put and a drop leave; Sync, Delete. Rename, Append. Append. Read, List. -/
import Derived.Test.YthogafecplhckaaDoorVBE
import Derived.Test.YthogafecplhckaaDoorVS
import Derived.Sort.OwnSorted
import Derived.Sort.MapsRangeIn
import Derived.Lib.SlicesCompact
namespace Go.Proofs.YthogafecplhckaaDoor
open Go.RowKit Go.Maps Go.Shelf
set_option linter.unusedSimpArgs false
set_option linter.unusedVariables false
def wrongR (x : Nat) : Bool := !((decide (97 ≤ x) && decide (x ≤ 122)) || (decide (48 ≤ x) && decide (x ≤ 57)) || x == 46)
set_option maxRecDepth 100000 in
set_option maxHeartbeats 4000000 in
theorem vwrong_any (x : Nat) (w : World) (hx : x ≤ 1114111) : Calls Tryd.prog 54 #[.int .i32 (x : Int)] w fun e w' => e = .returned (.bool (wrongR x)) ∧ w = w' := by
  obtain ⟨r, hr⟩ : ∃ r, r = wrongR x := ⟨_, rfl⟩
  rw [← hr]
  have HR := Lib.hid hr
  clear hr
  by_cases h1 : 97 ≤ x
  · have k1 : ((x : Int) ≥ 97) := by omega
    by_cases h2 : x ≤ 122
    · have k2 : ((x : Int) ≤ 122) := by omega
      obtain rfl : r = false := by rw [HR.out]; simp [wrongR, h1, h2]
      clear HR
      go_enter Tryd.func54, Tryd.ntmps54
      go_wp2_with fail
      go_ret
      exact ⟨rfl, rfl⟩
    · have k2 : ¬ ((x : Int) ≤ 122) := by omega
      have k3 : ((x : Int) ≥ 48) := by omega
      have k4 : ¬ ((x : Int) ≤ 57) := by omega
      have k5 : ((x : Int) == 46) = false := by simp; omega
      obtain rfl : r = true := by rw [HR.out]; simp [wrongR, h2]; omega
      clear HR
      go_enter Tryd.func54, Tryd.ntmps54
      go_wp2_with fail
      go_ret
      exact ⟨rfl, rfl⟩
  · have k1 : ¬ ((x : Int) ≥ 97) := by omega
    by_cases h3 : 48 ≤ x
    · have k3 : ((x : Int) ≥ 48) := by omega
      by_cases h4 : x ≤ 57
      · have k4 : ((x : Int) ≤ 57) := by omega
        obtain rfl : r = false := by rw [HR.out]; simp [wrongR, h3, h4]
        clear HR
        go_enter Tryd.func54, Tryd.ntmps54
        go_wp2_with fail
        go_ret
        exact ⟨rfl, rfl⟩
      · have k4 : ¬ ((x : Int) ≤ 57) := by omega
        have k5 : ((x : Int) == 46) = false := by simp; omega
        obtain rfl : r = true := by rw [HR.out]; simp [wrongR, h1, h4]; omega
        clear HR
        go_enter Tryd.func54, Tryd.ntmps54
        go_wp2_with fail
        go_ret
        exact ⟨rfl, rfl⟩
    · have k3 : ¬ ((x : Int) ≥ 48) := by omega
      by_cases h5 : x = 46
      · have k5 : ((x : Int) == 46) = true := by simp; omega
        obtain rfl : r = false := by rw [HR.out]; simp [wrongR, h5]
        clear HR h5
        go_enter Tryd.func54, Tryd.ntmps54
        go_wp2_with fail
        go_ret
        exact ⟨rfl, rfl⟩
      · have k5 : ((x : Int) == 46) = false := by simp; omega
        obtain rfl : r = true := by rw [HR.out]; simp [wrongR, h1, h3, h5]
        clear HR h5
        go_enter Tryd.func54, Tryd.ntmps54
        go_wp2_with fail
        go_ret
        exact ⟨rfl, rfl⟩
def nameB (s : ByteArray) : Bool := decide (s ≠ ⟨#[]⟩) && decide (s.size ≤ 12) && !decide (0 ≤ Lib.idxFunc wrongR true s)
theorem enter52 : ∀ args w, (callFunc 54 args).run Tryd.prog w = .ok (.enter 54 args) w := fun args w => by kernel_rfl
theorem pred52 (w : World) : PredGrows Tryd.prog 54 #[] wrongR w := fun W x hx hb => (vwrong_any x W hx).mono fun e w' ⟨he, hw⟩ => ⟨he, hw ▸ Below.refl _ _⟩
set_option maxRecDepth 100000 in
set_option maxHeartbeats 4000000 in
theorem maybe_any (s : ByteArray) (w : World) (hs : s.size ≤ 9223372036854775807) : Calls Tryd.prog 26 #[.string s] w fun e w' => e = .returned (.bool (nameB s)) ∧ Below w.heap.size w w' := by
  obtain ⟨r, hr⟩ : ∃ r, r = nameB s := ⟨_, rfl⟩
  rw [← hr]
  by_cases h0 : s = ⟨#[]⟩
  · obtain rfl : r = false := by rw [hr]; simp [nameB, h0]
    subst h0
    clear hr
    go_enter Tryd.func26, Tryd.ntmps26
    go_wp2_with fail
    go_ret
    exact ⟨rfl, Below.refl _ _⟩
  have k0 : (s.toList != []) = true := by
    have := str_ne_lit (l := []) h0
    simp only [bne, this]; rfl
  have k0' : ¬ (s.toList = []) := by
    have := str_ne_lit (l := []) h0
    simpa using this
  have k0e : s.toList.isEmpty = false := by cases h : s.toList with
    | nil => exact absurd h k0'
    | cons a l => rfl
  obtain ⟨z, hz⟩ : ∃ z, s.size = z := ⟨_, rfl⟩
  by_cases h1 : z ≤ 12
  · obtain ⟨q, hq⟩ : ∃ q, q = decide (0 ≤ Lib.idxFunc wrongR true s) := ⟨_, rfl⟩
    have hc := Tryd.strings_ContainsFunc_grows 54 #[] enter52 wrongR s w (pred52 w)
    rw [← hq] at hc
    have HC := Lib.hid hc
    have HR := Lib.hid (show r = !q by rw [hr, hq]; simp [nameB, h0, hz, h1])
    have d1 : decide ((z : Int) ≤ 12) = true := by simp; omega
    clear hr hq hc h0 h1
    cases q with
    | true =>
      obtain rfl : r = false := HR.out
      go_enter Tryd.func26, Tryd.ntmps26
      go_wp2_with (go_at_call 55; refine HC.out.mono ?_; rintro e w1 ⟨rfl, hb⟩; have HB := Lib.hid hb; clear hb)
      go_ret
      exact ⟨rfl, HB.out⟩
    | false =>
      obtain rfl : r = true := HR.out
      go_enter Tryd.func26, Tryd.ntmps26
      go_wp2_with (go_at_call 55; refine HC.out.mono ?_; rintro e w1 ⟨rfl, hb⟩; have HB := Lib.hid hb; clear hb)
      go_ret
      exact ⟨rfl, HB.out⟩
  · obtain rfl : r = false := by rw [hr]; simp [nameB, hz]; omega
    have d1 : decide ((z : Int) ≤ 12) = false := by simp; omega
    clear hr h0 h1
    go_enter Tryd.func26, Tryd.ntmps26
    go_wp2_with fail
    go_ret
    exact ⟨rfl, Below.refl _ _⟩
set_option maxRecDepth 100000 in
set_option maxHeartbeats 4000000 in
theorem free_any (a : Nat) (V : VZ) (w : World) (h : VCore w a V) : Calls Tryd.prog 28 #[.pointer (some ⟨a, 0, none⟩)] w fun e w' => e = .returned (.int .i64 ((V.room : Int) - (usedF V.F : Int))) ∧ Below w.heap.size w w' := by
  have c0 := h.blk.cell 0
  have c1 := h.blk.cell 1
  simp at c0 c1
  have hr := h.room
  have hu := h.used
  obtain ⟨u, hu2⟩ : ∃ u : Nat, u = usedF V.F := ⟨_, rfl⟩
  obtain ⟨q, hq⟩ : ∃ q : Nat, q = V.room := ⟨_, rfl⟩
  rw [← hu2] at c1 hu ⊢
  rw [← hq] at c0 hr ⊢
  have hw : IntKind.i64.wrap ((q : Int) - (u : Int)) = (q : Int) - (u : Int) := IntWalk.i64_in _ (by omega)
  clear h hu2 hq
  go_enter Tryd.func28, Tryd.ntmps28
  go_upto_region 3 with fail
  go_quiet (fail)
  go_wp2_with fail
  go_ret
  exact ⟨rfl, below_drewN (Below.refl _ _) _⟩
def newZ (room b : Nat) : VZ := ⟨room, false, 0, b, []⟩
def NewPost (w : World) (room : Int) (e : Ending) (w' : World) : Prop :=
  ((room < 0 ∨ 16777216 < room) ∧ e = .returned (.tuple #[.pointer none, .int .i64 1]) ∧ w = w') ∨
  (∃ r : Nat, room = (r : Int) ∧ r ≤ 16777216 ∧ e = .returned (.tuple #[.pointer (some ⟨w.heap.size + 1, 0, none⟩), .int .i64 0]) ∧ VCore w' (w.heap.size + 1) (newZ r w.heap.size) ∧ Below w.heap.size w w')
set_option maxRecDepth 100000 in
set_option maxHeartbeats 4000000 in
theorem new_any (room : Int) (w : World) (h1 : -9223372036854775808 ≤ room) (h2 : room ≤ 9223372036854775807) : Calls Tryd.prog 9 #[.int .i64 room] w (NewPost w room) := by
  have hmm := @run_makeMap Tryd.prog
  by_cases hl : room < 0
  · have k1 : decide (room < 0) = true := by simp; omega
    go_enter Tryd.func9, Tryd.ntmps9
    go_wp2_with fail
    go_ret2
    exact .inl ⟨.inl hl, rfl, rfl⟩
  by_cases hg : 16777216 < room
  · have k1 : decide (room < 0) = false := by simp; omega
    have k2 : decide (16777216 < room) = true := by simp; omega
    go_enter Tryd.func9, Tryd.ntmps9
    go_wp2_with fail
    go_ret2
    exact .inl ⟨.inr hg, rfl, rfl⟩
  · obtain ⟨r, rfl⟩ : ∃ r : Nat, room = (r : Int) := ⟨room.toNat, by omega⟩
    have hr : r ≤ 16777216 := by omega
    have k1 : decide ((r : Int) < 0) = false := by simp
    have k2 : decide ((16777216 : Int) < (r : Int)) = false := by simp; omega
    go_enter Tryd.func9, Tryd.ntmps9
    go_wp2_with fail
    go_ret2
    refine Or.inr ⟨r, rfl, hr, rfl, ⟨?_, ⟨0, ?_⟩, List.Pairwise.nil, Nat.zero_le _, hr, Nat.zero_le _, Nat.zero_le _⟩, bpush (bpush (Below.refl _ _) _) _⟩
    · have h5 := Blk.new (w.alloc (.map #[] 0)) 66 #[.int .i64 (r : Int), .int .i64 0, .map (some w.heap.size), .bool false, .int .i64 0]
      have h6 : (w.alloc (.map #[] 0)).heap.size = w.heap.size + 1 := by simp
      rw [h6] at h5
      exact h5
    · exact (World.ownsMap_made w Tryd.prog 9 heldR).alloc _
def armZ (V : VZ) (n : Nat) : VZ := { V with armed := true, fuse := n }
def ArmPost (w : World) (a : Nat) (V : VZ) (n : Int) (e : Ending) (w' : World) : Prop :=
  (n < 0 ∧ e = .returned (.int .i64 1) ∧ w = w') ∨ (∃ k : Nat, n = (k : Int) ∧ e = .returned (.int .i64 0) ∧ VCore w' a (armZ V k) ∧ Fr (fun i => i = a) w w')
set_option maxRecDepth 100000 in
set_option maxHeartbeats 4000000 in
theorem arm_any (a : Nat) (V : VZ) (n : Int) (w : World) (h : VCore w a V) (h2 : n ≤ 9223372036854775807) : Calls Tryd.prog 14 #[.pointer (some ⟨a, 0, none⟩), .int .i64 n] w (ArmPost w a V n) := by
  by_cases hl : n < 0
  · have k1 : decide (n < 0) = true := by simp; omega
    clear h
    go_enter Tryd.func14, Tryd.ntmps14
    go_wp2_with fail
    go_ret
    exact Or.inl ⟨hl, rfl, rfl⟩
  · obtain ⟨k, rfl⟩ : ∃ k : Nat, n = (k : Int) := ⟨n.toNat, by omega⟩
    have k1 : decide ((k : Int) < 0) = false := by simp
    have c3 := h.blk.cell 3
    have c4 := h.blk.cell 4
    have f3 := h.blk.frozen 3
    have f4 := h.blk.frozen 4
    simp at c3 c4
    have h3 := h.set 3 (.bool true) { V with armed := true } rfl rfl rfl h.room h.fuse
    have h4 := h3.set 4 (.int .i64 (k : Int)) (armZ V k) rfl rfl rfl h.room (by show k ≤ _; omega)
    have HV := Lib.hid h4
    have HF := Lib.hid (show Fr (fun i => i = a) w ((w.setCell ⟨a, 3, none⟩ (.bool true)).setCell ⟨a, 4, none⟩ (.int .i64 (k : Int))) from ((Fr.refl (fun i => i = a) w).set_ (.inl (show a = a from rfl)) _).set_ (.inl (show a = a from rfl)) _)
    clear h h3 h4
    go_enter Tryd.func14, Tryd.ntmps14
    go_wp2_with fail
    go_ret
    exact Or.inr ⟨k, rfl, rfl, HV.out, HF.out⟩
end Go.Proofs.YthogafecplhckaaDoor
namespace Go.Proofs.YthogafecplhckaaDoor
open Go.RowKit Go.Maps Go.Shelf
set_option linter.unusedSimpArgs false
set_option linter.unusedVariables false
def u8s (l : List Int) : List Value := l.map (Value.int .u8)
theorem u8s_len (l : List Int) : (u8s l).length = l.length := by simp [u8s]
theorem u8s_app (l m : List Int) : u8s l ++ u8s m = u8s (l ++ m) := by simp [u8s]
theorem one_u8s (l : List Int) : ∀ u ∈ u8s l, u.oneCell' = true := by
  intro u hu
  obtain ⟨x, _, rfl⟩ := List.mem_map.1 hu
  rfl
theorem run_append_u8s (w : World) (ty : TypeId) (base : Nat) (v : Value) (n : Nat) (xs : List Value) (hown : w.ownsRow base 5 1 v n xs) (A : Option Addr) (m c : Nat) (M : List Int)
    (hrow : Row w A (u8s M)) (hm : m = M.length) (hmc : m ≤ c) (ha : A = none → c = 0) (h63 : (n + m) * 1 ≤ 140737488355328) (hbase : base ≤ w.heap.size) :
    ∃ v' w', (Builtin.append_ #[25, 25] ty #[v, .slice A m c]).run Tryd.prog w = .ok v' w' ∧ w'.ownsRow base 5 1 v' (n + m) (xs ++ u8s M) ∧ w.grownBy w' v.ownBlock ∧ (v'.ownBlock = v.ownBlock ∨ v'.ownBlock = some w.heap.size) := by
  obtain ⟨i0, hi0, hz0, hz1, hz2⟩ := info_parts info5
  cases A with
  | none =>
    have e1 : c = 0 := ha rfl
    have e2 : m = 0 := by omega
    have e3 : M = [] := List.eq_nil_of_length_eq_zero (by omega)
    subst e1 e2 e3
    have hrun := run_append_owned_none (P := Tryd.prog) (w := w) base 25 ty 5 i0 1 Tryd.underlying25 hi0 v n xs hown
    exact ⟨v, w, hrun, by simpa [u8s] using hown, ⟨rfl, rfl, rfl, Nat.le_refl _, fun _ _ _ => rfl⟩, .inl rfl⟩
  | some a =>
    obtain ⟨v', w', hr, h2, h3, _, h5⟩ := run_append_own_at (P := Tryd.prog) w base 25 ty 5 i0 (.int .u8 0) 1 1 Tryd.underlying25 hi0 hz0 hz1 hz2 rfl (by decide) v n xs hown a m c (u8s M) (by rw [Nat.mul_one]; simp [u8s]; exact hm.symm) hrow.at' (one_u8s M) (by unfold maxLen; omega) h63 hbase
    exact ⟨v', w', hr, h2, h3, h5⟩
theorem wpList_append_u8s {w : World} {ops : Array Oper} {rest : List Oper} {o : Oper} {a : Act} {Q : Exit → Act → World → Prop} (hgd : o.guard = none) (s x : Operand)
    (ho : o.op = .call { callee := .builtin .append, args := #[s, x], argTypes := #[25, 25] })
    (base : Nat) (v : Value) (n : Nat) (xs : List Value) (hs : a.eval s = v) (A : Option Addr) (m c : Nat) (M : List Int) (hx : a.eval x = .slice A m c) (hown : w.ownsRow base 5 1 v n xs)
    (hrow : Row w A (u8s M)) (hm : m = M.length) (hmc : m ≤ c) (ha : A = none → c = 0) (h63 : (n + m) * 1 ≤ 140737488355328) (hbase : base ≤ w.heap.size)
    (h : ∀ v' w', w'.ownsRow base 5 1 v' (n + m) (xs ++ u8s M) → w.grownBy w' v.ownBlock → (v'.ownBlock = v.ownBlock ∨ v'.ownBlock = some w.heap.size) → wpList Tryd.prog ops Q rest (a.put o.dst v') w') :
    wpList Tryd.prog ops Q (o :: rest) a w := by
  refine wpList_plain hgd fun K hK => ?_
  obtain ⟨v', w', hr, h2, h3, h4⟩ := run_append_u8s w o.type base v n xs hown A m c M hrow hm hmc ha h63 hbase
  unfold Oper.wp execOp
  simp only [ho, resolve, invoke, builtin, Sem.run_bind, Sem.run_pure, Result.andThen_ok, List.map_toArray, List.map_cons, List.map_nil, hs, hx, hr]
  exact hK _ _ (h v' w' h2 h3 h4)
def blkF (f : FZ) : Option Nat := (Value.slice f.A f.n f.c).ownBlock
def OwnF (w : World) (B : Nat) (f : FZ) : Prop := w.ownsRow B 5 1 (.slice f.A f.n f.c) f.n (u8s f.bs)
def apartF (f g : FZ) : Prop := ∀ b, blkF f = some b → blkF g ≠ some b
theorem apartF.symm {f g : FZ} (h : apartF f g) : apartF g f := fun b h1 h2 => h b h2 h1
theorem OwnF.fr {w w' : World} {B : Nat} {f : FZ} {S : Nat → Prop} (h : OwnF w B f) (hf : Fr S w w') (hs : ∀ b, blkF f = some b → ¬ S b) : OwnF w' B f := by
  obtain ⟨h1, h2⟩ := h
  refine ⟨h1, ?_⟩
  rcases h2 with h2 | ⟨g, cap, cur, e1, e2, e3, r⟩
  · exact .inl h2
  · refine .inr ⟨g, cap, cur, e1, e2, ?_, r⟩
    have hlt : g < w.heap.size := (Array.getElem?_eq_some_iff.1 e3).1
    exact (hf.block g hlt (hs g (by unfold blkF; rw [e1]; rfl))).trans e3
theorem OwnF.n {w : World} {B : Nat} {f : FZ} (h : OwnF w B f) : f.n = f.bs.length := by have := h.1; rw [u8s_len] at this; omega
theorem OwnF.lt {w : World} {B : Nat} {f : FZ} (h : OwnF w B f) {b : Nat} (hb : blkF f = some b) : b < w.heap.size ∧ B ≤ b ∧ ∃ cs fz, w.heap[b]? = some (.cells cs 5 fz) := by
  rcases h.2 with ⟨e, _⟩ | ⟨g, cap, cur, e1, e2, e3, r⟩
  · unfold blkF at hb; rw [e] at hb; cases hb
  · unfold blkF at hb
    rw [e1] at hb
    obtain rfl : g = b := by simpa [Value.ownBlock] using hb
    exact ⟨(Array.getElem?_eq_some_iff.1 e3).1, e2, _, _, e3⟩
/-- A vault: its cell, its map, and its files' bytes, each file's its own. -/
structure VRep (w : World) (B a : Nat) (V : VZ) : Prop where
  core : VCore w a V
  own : ∀ f ∈ V.F, OwnF w B f
  apart : V.F.Pairwise apartF
  byt : ∀ f ∈ V.F, bytes f.bs
  safe : ∀ f ∈ V.F, f.safe ≤ f.n
  name : ∀ f ∈ V.F, f.name.size ≤ 12
  ba : B ≤ a
  bb : B ≤ V.b
  used : usedF V.F ≤ V.room
  len : V.F.length ≤ 200
def Foot (a : Nat) (V : VZ) (i : Nat) : Prop := i = a ∨ i = V.b ∨ ∃ f ∈ V.F, blkF f = some i
theorem VRep.not_a {w : World} {B a : Nat} {V : VZ} (h : VRep w B a V) {f : FZ} (hf : f ∈ V.F) : blkF f ≠ some a ∧ blkF f ≠ some V.b := by
  constructor
  · intro e
    obtain ⟨_, _, cs, fz, h1⟩ := (h.own f hf).lt e
    have := h.core.blk
    unfold Blk at this
    rw [h1] at this; cases this
  · intro e
    obtain ⟨_, _, cs, fz, h1⟩ := (h.own f hf).lt e
    obtain ⟨n, es, clock, h2, _⟩ := h.core.map
    rw [h1] at h2; cases h2
theorem VRep.fr {w w' : World} {B a : Nat} {V : VZ} {S : Nat → Prop} (h : VRep w B a V) (hf : Fr S w w') (hs : ∀ i, Foot a V i → ¬ S i) : VRep w' B a V :=
  { h with
    core := h.core.fr hf (hs a (.inl rfl)) (hs V.b (.inr (.inl rfl)))
    own := fun f hfm => (h.own f hfm).fr hf fun b hb => hs b (.inr (.inr ⟨f, hfm, hb⟩)) }
theorem VRep.below {w w' : World} {B a : Nat} {V : VZ} (h : VRep w B a V) (hb : Below w.heap.size w w') : VRep w' B a V := h.fr (S := fun _ => False) (Fr.of_below hb) fun _ _ h => h
theorem VRep.foot_lt {w : World} {B a : Nat} {V : VZ} (h : VRep w B a V) {i : Nat} (hi : Foot a V i) : i < w.heap.size ∧ B ≤ i := by
  rcases hi with rfl | rfl | ⟨f, hf, hb⟩
  · exact ⟨h.core.la, h.ba⟩
  · exact ⟨h.core.lb, h.bb⟩
  · have := (h.own f hf).lt hb
    exact ⟨this.1, this.2.1⟩
/-- The core may have turned, the files stay. -/
theorem VRep.turn {w w' : World} {B a : Nat} {V V' : VZ} (h : VRep w B a V) (hc : VCore w' a V') (hf : Fr (fun i => i = a) w w') (hF : V'.F = V.F) (hb : V'.b = V.b) (hr : V'.room = V.room) : VRep w' B a V' :=
  ⟨hc, by rw [hF]; exact fun f hfm => (h.own f hfm).fr hf fun b hb e => (h.not_a hfm).1 (by rw [hb, e]), by rw [hF]; exact h.apart, by rw [hF]; exact h.byt, by rw [hF]; exact h.safe, by rw [hF]; exact h.name, h.ba, by rw [hb]; exact h.bb, by rw [hF, hr]; exact h.used, by rw [hF]; exact h.len⟩
/-- What an act leaves. -/
structure Left (w w' : World) (B a : Nat) (V V' : VZ) : Prop where
  rep : VRep w' B a V'
  fr : Fr (Foot a V) w w'
  foot : ∀ i, Foot a V' i → Foot a V i ∨ w.heap.size ≤ i
/-- A file without where it lies. -/
def normF (f : FZ) : FZ := { f with A := none, c := 0 }
def normZ (V : VZ) : VZ := { V with b := 0, F := V.F.map normF }
theorem norm_drop (F : List FZ) (s : ByteArray) : (dropF F s).map normF = dropF (F.map normF) s := by
  unfold dropF; rw [List.filter_map]; rfl
theorem ins_cons (f g : FZ) (r : List FZ) : insF f (g :: r) = if bytesBefore (dat f.name) (dat g.name) then f :: g :: r else g :: insF f r := rfl
theorem norm_ins (f : FZ) : ∀ F : List FZ, (insF f F).map normF = insF (normF f) (F.map normF) := by
  intro F
  induction F with
  | nil => rfl
  | cons g F ih =>
    rw [ins_cons, List.map_cons, ins_cons]
    have e : bytesBefore (dat (normF f).name) (dat (normF g).name) = bytesBefore (dat f.name) (dat g.name) := rfl
    rw [e]
    split
    · rfl
    · rw [List.map_cons, ih]
theorem norm_put (F : List FZ) (f : FZ) : (putF F f).map normF = putF (F.map normF) (normF f) := by unfold putF; rw [norm_ins, norm_drop]; rfl
theorem norm_look (F : List FZ) (s : ByteArray) : lookF (F.map normF) s = (lookF F s).map normF := by
  unfold lookF; rw [List.find?_map]; rfl
theorem norm_lk (F : List FZ) (s : ByteArray) : lkF (F.map normF) s = normF (lkF F s) := by
  unfold lkF; rw [norm_look]; cases lookF F s <;> rfl
theorem norm_used (F : List FZ) : usedF (F.map normF) = usedF F := by unfold usedF; rw [List.map_map]; rfl
theorem norm_act (V : VZ) : normZ (actZ V) = actZ (normZ V) := by unfold actZ normZ; simp only; split <;> rfl
theorem norm_brk (V : VZ) : brkZ (normZ V) = brkZ V := rfl
theorem norm_err (V : VZ) : errZ (normZ V) = errZ V := by unfold errZ; rw [← norm_act, norm_brk]
end Go.Proofs.YthogafecplhckaaDoor
namespace Go.Proofs.YthogafecplhckaaDoor
open Go.RowKit Go.Maps Go.Shelf
set_option linter.unusedSimpArgs false
set_option linter.unusedVariables false
theorem pw_ins {R : FZ → FZ → Prop} (hsym : ∀ f g, R f g → R g f) {f : FZ} : ∀ {F : List FZ}, F.Pairwise R → (∀ g ∈ F, R f g) → (insF f F).Pairwise R := by
  intro F
  induction F with
  | nil => intro _ _; exact List.pairwise_singleton _ _
  | cons x F ih =>
    intro h hr
    have hc := List.pairwise_cons.1 h
    rw [ins_cons]
    split
    · exact List.pairwise_cons.2 ⟨fun g hg => hr g hg, h⟩
    · refine List.pairwise_cons.2 ⟨fun g hg => ?_, ih hc.2 fun g hg => hr g (List.mem_cons_of_mem _ hg)⟩
      rcases mem_ins.1 hg with rfl | hg
      · exact hsym _ _ (hr x (List.mem_cons_self ..))
      · exact hc.1 g hg
theorem len_drop_some {F : List FZ} {s : ByteArray} {f : FZ} (h : lookF F s = some f) : (dropF F s).length < F.length := by
  obtain ⟨h1, h2⟩ := look_name h
  unfold dropF
  refine List.length_filter_lt_length_iff_exists.2 ⟨f, h2, ?_⟩
  rw [h1]; simp
theorem len_put_some {F : List FZ} {f g : FZ} (h : lookF F f.name = some g) : (putF F f).length ≤ F.length := by
  unfold putF; rw [len_ins]; have := len_drop_some h; omega
theorem mem_putZ {V V1 : VZ} {f g : FZ} (hF : V1.F = V.F) : g ∈ (putZ V1 f).F ↔ g = f ∨ (g ∈ V.F ∧ g.name ≠ f.name) := by show g ∈ putF V1.F f ↔ _; rw [hF]; exact mem_put
theorem put_rep {w w' : World} {B a : Nat} {V V1 : VZ} {f : FZ} (h : VRep w B a V) (hF : V1.F = V.F) (hb : V1.b = V.b) (hr : V1.room = V.room) (core : VCore w' a (putZ V1 f))
    (hrows : ∀ g ∈ V.F, g.name ≠ f.name → OwnF w' B g) (hf : OwnF w' B f) (hby : bytes f.bs) (hsafe : f.safe ≤ f.n) (hname : f.name.size ≤ 12) (hap : ∀ g ∈ V.F, g.name ≠ f.name → apartF f g)
    (hus : usedF (putF V.F f) ≤ V.room) (hlen : (putF V.F f).length ≤ 200) : VRep w' B a (putZ V1 f) := by
  have hm := fun g => mem_putZ (V := V) (V1 := V1) (f := f) (g := g) hF
  refine ⟨core, fun g hg => ?_, ?_, fun g hg => ?_, fun g hg => ?_, fun g hg => ?_, h.ba, by show B ≤ V1.b; rw [hb]; exact h.bb, by show usedF (putF V1.F f) ≤ V1.room; rw [hF, hr]; exact hus, by show (putF V1.F f).length ≤ _; rw [hF]; exact hlen⟩
  · rcases (hm g).1 hg with rfl | ⟨h1, h2⟩
    · exact hf
    · exact hrows g h1 h2
  · show (putF V1.F f).Pairwise apartF
    rw [hF]
    exact pw_ins (fun f g h => h.symm) (h.apart.filter _) fun g hg => hap g (mem_drop.1 hg).1 (mem_drop.1 hg).2
  · rcases (hm g).1 hg with rfl | ⟨h1, h2⟩
    · exact hby
    · exact h.byt g h1
  · rcases (hm g).1 hg with rfl | ⟨h1, h2⟩
    · exact hsafe
    · exact h.safe g h1
  · rcases (hm g).1 hg with rfl | ⟨h1, h2⟩
    · exact hname
    · exact h.name g h1
theorem foot_put {a : Nat} {V V1 : VZ} {f : FZ} (hF : V1.F = V.F) (hb : V1.b = V.b) {i : Nat} (hi : Foot a (putZ V1 f) i) : Foot a V i ∨ blkF f = some i := by
  rcases hi with rfl | hi | ⟨g, hg, hgb⟩
  · exact .inl (.inl rfl)
  · exact .inl (.inr (.inl (by rw [hi]; exact hb)))
  · rcases (mem_putZ hF).1 hg with rfl | ⟨h1, h2⟩
    · exact .inr hgb
    · exact .inl (.inr (.inr ⟨g, h1, hgb⟩))
theorem put_left {w w' : World} {B a : Nat} {V V1 : VZ} {f : FZ} (h : VRep w B a V) (hF : V1.F = V.F) (hb : V1.b = V.b) (hr : V1.room = V.room) (core : VCore w' a (putZ V1 f)) (fr : Fr (Foot a V) w w')
    (hrows : ∀ g ∈ V.F, g.name ≠ f.name → OwnF w' B g) (hf : OwnF w' B f) (hby : bytes f.bs) (hsafe : f.safe ≤ f.n) (hname : f.name.size ≤ 12) (hap : ∀ g ∈ V.F, g.name ≠ f.name → apartF f g)
    (hus : usedF (putF V.F f) ≤ V.room) (hlen : (putF V.F f).length ≤ 200) (hft : ∀ b, blkF f = some b → Foot a V b ∨ w.heap.size ≤ b) : Left w w' B a V (putZ V1 f) :=
  ⟨put_rep h hF hb hr core hrows hf hby hsafe hname hap hus hlen, fr, fun i hi => (foot_put hF hb hi).elim .inl (hft i)⟩
theorem apart_of {V : VZ} (h : V.F.Pairwise apartF) {f g : FZ} (hf : f ∈ V.F) (hg : g ∈ V.F) (hne : g.name ≠ f.name) : apartF f g := by
  obtain ⟨i, hi, e1⟩ := List.getElem_of_mem hf
  obtain ⟨j, hj, e2⟩ := List.getElem_of_mem hg
  rcases Nat.lt_trichotomy i j with k | k | k
  · have := List.pairwise_iff_getElem.1 h i j hi hj k; rw [e1, e2] at this; exact this
  · subst k; rw [e1] at e2; rw [← e2] at hne; exact absurd rfl hne
  · have := List.pairwise_iff_getElem.1 h j i hj hi k; rw [e1, e2] at this; exact this.symm
theorem drop_left {w w' : World} {B a : Nat} {V V1 : VZ} {s : ByteArray} (h : VRep w B a V) (hF : V1.F = V.F) (hb : V1.b = V.b) (hr : V1.room = V.room) (core : VCore w' a (dropZ V1 s)) (fr : Fr (fun i => i = a ∨ i = V.b) w w') : Left w w' B a V (dropZ V1 s) := by
  have hm : ∀ g, g ∈ (dropZ V1 s).F ↔ g ∈ V.F ∧ g.name ≠ s := fun g => by show g ∈ dropF V1.F s ↔ _; rw [hF]; exact mem_drop
  refine ⟨⟨core, fun g hg => ?_, ?_, fun g hg => h.byt g ((hm g).1 hg).1, fun g hg => h.safe g ((hm g).1 hg).1, fun g hg => h.name g ((hm g).1 hg).1, h.ba, by show B ≤ V1.b; rw [hb]; exact h.bb, ?_, ?_⟩, fr.mono fun i _ hi => ?_, fun i hi => ?_⟩
  · refine (h.own g ((hm g).1 hg).1).fr fr fun b e k => ?_
    have hn := h.not_a ((hm g).1 hg).1
    rcases k with k | k
    · exact hn.1 (by rw [e, k])
    · exact hn.2 (by rw [e, k])
  · show (dropF V1.F s).Pairwise apartF
    rw [hF]; exact h.apart.filter _
  · show usedF (dropF V1.F s) ≤ V1.room
    rw [hF, hr]
    have := used_drop (s := s) h.core.one
    have := h.used
    omega
  · show (dropF V1.F s).length ≤ _
    rw [hF]; exact Nat.le_trans (len_drop _ _) h.len
  · rcases hi with hi | hi
    · exact .inl hi
    · exact .inr (.inl hi)
  · rcases hi with rfl | hi | ⟨g, hg, hgb⟩
    · exact .inl (.inl rfl)
    · exact .inl (.inr (.inl (by rw [hi]; exact hb)))
    · exact .inl (.inr (.inr ⟨g, ((hm g).1 hg).1, hgb⟩))
/-- An act's errno and state. -/
def ActP (w : World) (B a : Nat) (V : VZ) (X : VZ × Int) (e : Ending) (w' : World) : Prop := ∃ V', e = .returned (.int .i64 X.2) ∧ normZ V' = X.1 ∧ Left w w' B a V V'
theorem Left.same {w w' : World} {B a : Nat} {V : VZ} (h : VRep w B a V) (hb : Below w.heap.size w w') : Left w w' B a V V := ⟨h.below hb, Fr.of_below hb, fun i hi => .inl hi⟩
theorem Left.turn {w w' : World} {B a : Nat} {V V' : VZ} (h : VRep w B a V) (hc : VCore w' a V') (hf : Fr (fun i => i = a) w w') (hF : V'.F = V.F) (hb : V'.b = V.b) (hr : V'.room = V.room) : Left w w' B a V V' :=
  ⟨h.turn hc hf hF hb hr, hf.mono fun i _ hi => .inl hi, fun i hi => .inl (by unfold Foot at hi ⊢; rw [hF, hb] at hi; exact hi)⟩
theorem Left.andBelow {w w1 w' : World} {B a : Nat} {V V' : VZ} (h : Left w w1 B a V V') (hb : Below w1.heap.size w1 w') : Left w w' B a V V' :=
  ⟨h.rep.below hb, h.fr.trans (Fr.of_below hb), h.foot⟩
def syncS (P : VZ) (s : ByteArray) : VZ × Int :=
  match lookF P.F s with
  | none => (P, 31)
  | some f => if brkZ (actZ P) then (actZ P, 272) else (putZ (actZ P) { f with safe := f.n }, 0)
def deleteS (P : VZ) (s : ByteArray) : VZ × Int :=
  match lookF P.F s with
  | none => (P, 31)
  | some f => if brkZ (actZ P) then (actZ P, 272) else (dropZ (actZ P) s, 0)
theorem err_cases (V : VZ) : (brkZ (actZ V) = true ∧ errZ V = 272) ∨ (brkZ (actZ V) = false ∧ errZ V = 0) := by
  unfold errZ
  cases brkZ (actZ V) <;> simp
set_option maxRecDepth 100000 in
set_option maxHeartbeats 8000000 in
theorem sync_any (B a : Nat) (V : VZ) (s : ByteArray) (w : World) (h : VRep w B a V) (hs : s.size ≤ 9223372036854775807) :
    Calls Tryd.prog 36 #[.pointer (some ⟨a, 0, none⟩), .string s] w (ActP w B a V (syncS (normZ V) s)) := by
  have HH := Lib.hid h
  have HB := Lib.hid (begin_any a V s w h.core hs)
  clear h
  cases hl : lookF V.F s with
  | none =>
    have HL := Lib.hid hl
    have HS := Lib.hid (show syncS (normZ V) s = (normZ V, 31) by unfold syncS normZ; simp only [norm_look, hl, Option.map_none])
    clear hl
    go_enter Tryd.func36, Tryd.ntmps36
    go_wp2_with (go_at_call 67; refine HB.out.mono ?_; rintro e w1 hq; obtain ⟨rfl, hb⟩ : e = .returned (.tuple #[.agg #[.slice none 0 0, .int .i64 0], .int .i64 31]) ∧ Below w.heap.size w w1 := (by rcases hq with ⟨_, h1, h2⟩ | ⟨f, h1, _⟩; exact ⟨h1, h2⟩; exact absurd (HL.out.symm.trans h1) (by simp)); have HBB := Lib.hid hb; clear hq hb)
    go_ret
    refine ⟨V, by rw [HS.out]; rfl, by rw [HS.out], Left.same HH.out ?_⟩
    exact bpush HBB.out _
  | some f =>
    have HL := Lib.hid hl
    have HS := Lib.hid (show syncS (normZ V) s = if brkZ (actZ (normZ V)) then (actZ (normZ V), 272) else (putZ (actZ (normZ V)) { normF f with safe := f.n }, 0) by unfold syncS; simp only [show lookF (normZ V).F s = (lookF V.F s).map normF from norm_look V.F s, hl, Option.map_some]; rfl)
    obtain ⟨nm, fA, fn, fc, fs, fb⟩ := f
    have HQ := Lib.hid (show ∀ e w1, BeginPost w a V s e w1 → e = .returned (.tuple #[.agg #[.slice fA fn fc, .int .i64 fs], .int .i64 (errZ V)]) ∧ VCore w1 a (actZ V) ∧ Fr (fun i => i = a) w w1 from fun e w1 hq => by
      rcases hq with ⟨h0, _⟩ | ⟨f, h1, h2, h3, h4⟩
      · exact absurd (HL.out.symm.trans h0) (by simp)
      · have := HL.out.symm.trans h1
        cases this
        exact ⟨h2, h3, h4⟩)
    obtain ⟨er, her⟩ : ∃ er, er = errZ V := ⟨_, rfl⟩
    rw [← her] at HQ
    have HE := Lib.hid her
    clear hl her
    rcases err_cases V with ⟨hb, he⟩ | ⟨hb, he⟩
    · obtain rfl : er = 272 := HE.out.trans he
      have HBK := Lib.hid hb
      clear hb he
      go_enter Tryd.func36, Tryd.ntmps36
      go_wp2_with (go_at_call 67; refine HB.out.mono ?_; rintro e w1 hq; obtain ⟨rfl, hv, hf⟩ := HQ.out _ _ hq; have HV := Lib.hid hv; have HF := Lib.hid hf; clear hq hv hf)
      go_ret
      have hk : brkZ (actZ (normZ V)) = true := by rw [← norm_act, norm_brk]; exact HBK.out
      refine ⟨actZ V, by rw [HS.out, if_pos hk]; rfl, by rw [HS.out, if_pos hk]; exact norm_act V, (Left.turn HH.out HV.out HF.out (act_F V) (act_b V) (act_room V)).andBelow (bpush (Below.refl _ _) _)⟩
    · obtain rfl : er = 0 := HE.out.trans he
      have HBK := Lib.hid hb
      clear hb he
      go_enter Tryd.func36, Tryd.ntmps36
      go_upto_region 6 with (go_at_call 67; refine HB.out.mono ?_; rintro e w1 hq; obtain ⟨rfl, hv, hf⟩ := HQ.out _ _ hq; have HV := Lib.hid hv; have HF := Lib.hid hf; clear hq hv hf)
      obtain ⟨w2, hw2⟩ : ∃ w2, w2 = w1.alloc (.cells #[.slice fA fn fc, .int .i64 fs] 70) := ⟨_, rfl⟩
      have hb2 : Below w1.heap.size w1 w2 := by rw [hw2]; exact bpush (Below.refl _ _) _
      have HV2 := Lib.hid (HV.out.below hb2)
      have HB2 := Lib.hid hb2
      have HK2 := Lib.hid (show Blk w2 w1.heap.size 70 #[.slice fA fn fc, .int .i64 fs] by rw [hw2]; exact Blk.new _ _ _)
      have HGA := Lib.hid (show a < w1.heap.size ∧ V.b < w1.heap.size from ⟨HV.out.la, by have := HV.out.lb; rw [act_b] at this; exact this⟩)
      obtain ⟨g, hg⟩ : ∃ g, g = w1.heap.size := ⟨_, rfl⟩
      have HG := Lib.hid hg
      rw [← hw2]
      rw [← hg] at HK2 HGA ⊢
      clear hw2 hb2 hg
      have b0 := HK2.out.cell 0
      have b1 := HK2.out.cell 1
      have f1 := HK2.out.frozen 1
      simp at b0 b1
      go_upto_region 7 with fail
      obtain ⟨w3, hw3⟩ : ∃ w3, w3 = w2.setCell ⟨g, 1, none⟩ (.int .i64 fn) := ⟨_, rfl⟩
      have hf3 : Fr (fun i => i = g) w2 w3 := by rw [hw3]; exact (Fr.refl (fun i => i = g) w2).set_ (.inl (show g = g from rfl)) _
      have HK3 := Lib.hid (show Blk w3 g 70 #[.slice fA fn fc, .int .i64 fn] by rw [hw3]; exact HK2.out.set_ 1 _)
      have HV3 := Lib.hid (HV2.out.fr hf3 (by have := HGA.out.1; omega) (by rw [act_b]; have := HGA.out.2; omega))
      have HF3 := Lib.hid hf3
      rw [← hw3]
      clear b0 b1 f1 hw3 hf3
      have b0 := HK3.out.cell 0
      have b1 := HK3.out.cell 1
      simp at b0 b1
      have hfm := look_name HL.out
      obtain rfl : nm = s := hfm.1
      have hlk : lkF (actZ V).F nm = ⟨nm, fA, fn, fc, fs, fb⟩ := by rw [act_F]; unfold lkF; rw [HL.out]; rfl
      have HP := Lib.hid (put_any a (actZ V) nm fA fn fc fn fb w3 HV3.out hs (by rw [hlk]; have := HV3.out.used; simp only; omega) (by rw [act_F]; have := HH.out.len; omega))
      have HFM := Lib.hid hfm.2
      clear hlk hfm
      go_wp2_with (go_at_call 29; refine HP.out.mono ?_; rintro e w4 ⟨rfl, hv4, hf4⟩; have HV4 := Lib.hid hv4; have HF4 := Lib.hid hf4; clear hv4 hf4)
      go_ret
      have hk : ¬ (brkZ (actZ (normZ V)) = true) := by rw [← norm_act, norm_brk, HBK.out]; simp
      have hfr : Fr (fun i => i = a ∨ i = V.b) w w4 := by
        have h1 : Fr (fun i => i = a ∨ i = V.b) w w2 := (HF.out.mono fun i _ h => Or.inl h).trans (Fr.of_below HB2.out)
        have h3 : Fr (fun i => i = a ∨ i = V.b) w w3 := by
          refine ⟨HF3.out.os.trans h1.os, HF3.out.tape.trans h1.tape, HF3.out.output.trans h1.output, Nat.le_trans h1.size HF3.out.size, fun i hi k => ?_⟩
          exact (HF3.out.block i (Nat.lt_of_lt_of_le hi h1.size) (by have := HG.out; have := HF.out.size; omega)).trans (h1.block i hi k)
        have h4 : Fr (fun i => i = a ∨ i = V.b) w3 w4 := HF4.out.mono fun i _ h => by rw [act_b] at h; exact h
        exact h3.trans h4
      have hfoot : Fr (Foot a V) w w4 := hfr.mono fun i _ h => h.imp id Or.inl
      have hrow : ∀ g ∈ V.F, OwnF w4 B g := fun g hg => (HH.out.own g hg).fr hfr fun b e k => by
        have hn := HH.out.not_a hg
        rcases k with k | k
        · exact hn.1 (by rw [e, k])
        · exact hn.2 (by rw [e, k])
      have hap : ∀ g ∈ V.F, g.name ≠ nm → apartF ⟨nm, fA, fn, fc, fn, fb⟩ g := fun g hg hne => by
        have hx : apartF ⟨nm, fA, fn, fc, fs, fb⟩ g := by
          obtain ⟨i, hi, e1⟩ := List.getElem_of_mem HFM.out
          obtain ⟨j, hj, e2⟩ := List.getElem_of_mem hg
          rcases Nat.lt_trichotomy i j with h | h | h
          · have := List.pairwise_iff_getElem.1 HH.out.apart i j hi hj h; rw [e1, e2] at this; exact this
          · subst h; rw [e1] at e2; rw [← e2] at hne; exact absurd rfl hne
          · have := List.pairwise_iff_getElem.1 HH.out.apart j i hj hi h; rw [e1, e2] at this; exact this.symm
        exact hx
      refine ⟨putZ (actZ V) ⟨nm, fA, fn, fc, fn, fb⟩, by rw [HS.out, if_neg hk]; rfl, ?_, put_left HH.out (act_F V) (act_b V) (act_room V) HV4.out hfoot (fun g hg _ => hrow g hg) (by have h := hrow _ HFM.out; exact h) (by have h := HH.out.byt _ HFM.out; exact h) (Nat.le_refl _) (by have h := HH.out.name _ HFM.out; exact h) hap ?_ ?_ ?_⟩
      · rw [HS.out, if_neg hk]
        show normZ (putZ (actZ V) _) = putZ (actZ (normZ V)) _
        rw [← norm_act]
        unfold normZ putZ
        simp only [norm_put]; rfl
      · have h1 := used_put HH.out.core.one ⟨nm, fA, fn, fc, fn, fb⟩
        simp only [HL.out, Option.map_some, Option.getD_some] at h1
        have := HH.out.used
        omega
      · have h1 := len_put_some (f := ⟨nm, fA, fn, fc, fn, fb⟩) HL.out
        have := HH.out.len
        omega
      · exact fun b hb => .inl (.inr (.inr ⟨_, HFM.out, hb⟩))
end Go.Proofs.YthogafecplhckaaDoor
namespace Go.Proofs.YthogafecplhckaaDoor
open Go.RowKit Go.Maps Go.Shelf
set_option linter.unusedSimpArgs false
set_option linter.unusedVariables false
def renameS (P : VZ) (s t : ByteArray) : VZ × Int :=
  if nameB t = false then (P, 31) else
  match lookF P.F s with
  | none => (P, 31)
  | some f => if brkZ (actZ P) then (actZ P, 272) else (putZ (dropZ (actZ P) s) { f with name := t }, 0)
theorem name_size {s : ByteArray} (h : nameB s = true) : s.size ≤ 12 := by
  unfold nameB at h
  simp only [Bool.and_eq_true, decide_eq_true_eq] at h
  exact h.1.2
end Go.Proofs.YthogafecplhckaaDoor
namespace Go.Proofs.YthogafecplhckaaDoor
open Go.RowKit Go.Maps Go.Shelf
set_option linter.unusedSimpArgs false
set_option linter.unusedVariables false
def fullZ (P : VZ) (s : ByteArray) (n : Nat) : Prop := P.room - usedF P.F < n ∨ (lookF P.F s = none ∧ 200 ≤ P.F.length)
noncomputable instance (P : VZ) (s : ByteArray) (n : Nat) : Decidable (fullZ P s n) := Classical.propDecidable _
def addF (f : FZ) (bs : List Int) : FZ := { f with n := f.n + bs.length, bs := f.bs ++ bs }
noncomputable def appendS (P : VZ) (s : ByteArray) (bs : List Int) : VZ × Int :=
  if nameB s = false then (P, 31) else if brkZ (actZ P) then (actZ P, 272) else if fullZ P s bs.length then (actZ P, 32) else (putZ (actZ P) (addF (lkF P.F s) bs), 0)
theorem norm_full (V : VZ) (s : ByteArray) (n : Nat) : fullZ (normZ V) s n ↔ fullZ V s n := by
  unfold fullZ normZ
  simp only [norm_used, norm_look, Option.map_eq_none_iff, List.length_map]
theorem Row.fr {w w' : World} {A : Option Addr} {xs : List Value} {S : Nat → Prop} (h : Row w A xs) (hf : Fr S w w') (hs : ∀ b o, A = some ⟨b, o, none⟩ → ¬ S b) : Row w' A xs := by
  rcases h with h | ⟨b, off, rfl, hc⟩
  · exact .inl h
  · refine .inr ⟨b, off, rfl, fun j u hu => ?_⟩
    have h1 := hc j u hu
    have hlt := lt_of_cell h1
    have h2 := hf.block b hlt (hs b off rfl)
    unfold World.cell? at h1 ⊢
    simp only [h2]
    exact h1
theorem own_not_core {w : World} {B a : Nat} {V : VZ} {f : FZ} (h : VCore w a V) (hf : OwnF w B f) : blkF f ≠ some a ∧ blkF f ≠ some V.b := by
  constructor
  · intro e
    obtain ⟨_, _, cs, fz, h1⟩ := hf.lt e
    have := h.blk
    unfold Blk at this
    rw [h1] at this; cases this
  · intro e
    obtain ⟨_, _, cs, fz, h1⟩ := hf.lt e
    obtain ⟨n, es, clock, h2, _⟩ := h.map
    rw [h1] at h2; cases h2
theorem lk_own {w : World} {B a : Nat} {V : VZ} (h : VRep w B a V) (s : ByteArray) : OwnF w B (lkF V.F s) ∧ bytes (lkF V.F s).bs ∧ (lkF V.F s).safe ≤ (lkF V.F s).n ∧ (lkF V.F s).name = s ∧ (∀ b, blkF (lkF V.F s) = some b → Foot a V b) ∧ ∀ g ∈ V.F, g.name ≠ s → apartF (lkF V.F s) g := by
  cases hl : lookF V.F s with
  | none =>
    have e : lkF V.F s = ⟨s, none, 0, 0, 0, []⟩ := by unfold lkF; rw [hl]; rfl
    rw [e]
    exact ⟨World.ownsRow_nil _ _ _ _, (fun x hx => by cases hx), Nat.le_refl _, rfl, (fun b hb => by cases hb), fun g _ _ b hb => by cases hb⟩
  | some f =>
    have e : lkF V.F s = f := by unfold lkF; rw [hl]; rfl
    rw [e]
    obtain ⟨h1, h2⟩ := look_name hl
    exact ⟨h.own f h2, h.byt f h2, h.safe f h2, h1, (fun b hb => .inr (.inr ⟨f, h2, hb⟩)), fun g hg hne => apart_of h.apart h2 hg (by rw [h1]; exact hne)⟩
theorem norm_addF (f : FZ) (bs : List Int) : normF (addF f bs) = addF (normF f) bs := rfl
set_option maxRecDepth 100000 in
set_option maxHeartbeats 8000000 in
theorem append_any (B a : Nat) (V : VZ) (s : ByteArray) (Ab : Option Addr) (nb cb : Nat) (bs : List Int) (w : World) (h : VRep w B a V) (hs : s.size ≤ 9223372036854775807) (hrow : Row w Ab (u8s bs)) (hnb : nb = bs.length) (hcb : nb ≤ cb) (hab : Ab = none → cb = 0) (hby : bytes bs) (hn2 : nb ≤ 9223372036854775807) (hx : bs ≠ [] → ∀ b o, Ab = some ⟨b, o, none⟩ → ¬ Foot a V b) :
    Calls Tryd.prog 10 #[.pointer (some ⟨a, 0, none⟩), .string s, .slice Ab nb cb] w (ActP w B a V (appendS (normZ V) s bs)) := by
  have HH := Lib.hid h
  have HM := Lib.hid (maybe_any s w hs)
  obtain ⟨q, hq⟩ : ∃ q, q = nameB s := ⟨_, rfl⟩
  rw [← hq] at HM
  have HQN := Lib.hid hq
  have HROW := Lib.hid hrow
  have HNB := Lib.hid hnb
  have HCB := Lib.hid hcb
  have HAB := Lib.hid hab
  have HBY := Lib.hid hby
  have HX := Lib.hid hx
  clear h hq hrow hnb hcb hab hby hx
  cases q with
  | false =>
    have HS := Lib.hid (show appendS (normZ V) s bs = (normZ V, 31) by unfold appendS; rw [if_pos HQN.out.symm])
    go_enter Tryd.func10, Tryd.ntmps10
    go_wp2_with (go_at_call 26; refine HM.out.mono ?_; rintro e w1 ⟨rfl, hb⟩; have HBB := Lib.hid hb; clear hb)
    go_ret
    exact ⟨V, by rw [HS.out]; rfl, by rw [HS.out], Left.same HH.out HBB.out⟩
  | true =>
  have HAC := Lib.hid (show ∀ w0, Below w.heap.size w w0 → Calls Tryd.prog 27 #[.pointer (some ⟨a, 0, none⟩)] w0 (ActPost w0 a V) from fun w0 hb => act_any a V w0 (HH.out.below hb).core)
  have HNS := Lib.hid (show appendS (normZ V) s bs = if brkZ (actZ V) then (actZ (normZ V), 272) else if fullZ V s bs.length then (actZ (normZ V), 32) else (putZ (actZ (normZ V)) (addF (lkF (normZ V).F s) bs), 0) by
    unfold appendS
    rw [if_neg (by rw [← HQN.out]; simp), ← norm_act, norm_brk]
    by_cases hb : brkZ (actZ V) = true
    · rw [if_pos hb, if_pos hb]
    · rw [if_neg hb, if_neg hb]
      by_cases hf : fullZ V s bs.length
      · rw [if_pos hf, if_pos ((norm_full V s _).2 hf)]
      · rw [if_neg hf, if_neg (fun k => hf ((norm_full V s _).1 k))])
  obtain ⟨er, her⟩ : ∃ er, er = errZ V := ⟨_, rfl⟩
  have HE := Lib.hid her
  have HAC2 := Lib.hid (show ∀ w0, Below w.heap.size w w0 → Calls Tryd.prog 27 #[.pointer (some ⟨a, 0, none⟩)] w0 fun e w1 => e = .returned (.int .i64 er) ∧ VCore w1 a (actZ V) ∧ Fr (fun i => i = a) w0 w1 from fun w0 hb => by rw [her]; exact HAC.out w0 hb)
  clear her HAC
  rcases err_cases V with ⟨hb, he⟩ | ⟨hb, he⟩
  · obtain rfl : er = 272 := HE.out.trans he
    have HBK := Lib.hid hb
    clear hb he
    go_enter Tryd.func10, Tryd.ntmps10
    go_wp2_with (first
      | (go_at_call 26; refine HM.out.mono ?_; rintro e w0 ⟨rfl, hb⟩; have HB0 := Lib.hid hb; clear hb)
      | (go_at_call 27; refine (HAC2.out _ HB0.out).mono ?_; rintro e w1 ⟨rfl, hv, hf⟩; have HV := Lib.hid hv; have HF := Lib.hid hf; clear hv hf))
    go_ret
    have hF : Fr (fun i => i = a) w _ := (Fr.of_below HB0.out).trans HF.out
    exact ⟨actZ V, by rw [HNS.out, if_pos HBK.out]; rfl, by rw [HNS.out, if_pos HBK.out]; exact norm_act V, Left.turn HH.out HV.out hF (act_F V) (act_b V) (act_room V)⟩
  obtain rfl : er = 0 := HE.out.trans he
  have HBK := Lib.hid (show ¬ (brkZ (actZ V) = true) by rw [hb]; simp)
  clear hb he
  obtain ⟨th, hth⟩ : ∃ th, th = (lookF V.F s).isSome := ⟨_, rfl⟩
  obtain ⟨f, hf⟩ : ∃ f, f = lkF V.F s := ⟨_, rfl⟩
  obtain ⟨fr, hfr⟩ : ∃ fr, fr = V.room - usedF V.F := ⟨_, rfl⟩
  obtain ⟨ln, hln⟩ : ∃ ln, ln = V.F.length := ⟨_, rfl⟩
  have HTH := Lib.hid hth
  have HF0 := Lib.hid hf
  have HFR := Lib.hid hfr
  have HLN := Lib.hid hln
  have hfb : fr ≤ 16777216 := by have := HH.out.core.room; omega
  have hlb : ln ≤ 200 := by have := HH.out.len; omega
  have HLO := Lib.hid (lk_own HH.out s)
  rw [← hf] at HLO
  have HFN := Lib.hid (show f.n ≤ usedF V.F by rw [hf]; exact lk_le s HH.out.core.one)
  obtain ⟨nm, fA, fn, fc, fs, fb⟩ := f
  have HLK := Lib.hid (show ∀ w1, VCore w1 a (actZ V) → (Instr.lookup 64 (.map (some V.b)) (.string s) true).run Tryd.prog w1 = .ok (.tuple #[.agg #[.slice fA fn fc, .int .i64 fs], .bool th]) w1 from fun w1 hv => by
    have := (look_run hv s hs 0).2
    rw [act_b, act_F, ← hth, ← hf] at this
    exact this)
  have HLEN := Lib.hid (show ∀ w1, VCore w1 a (actZ V) → (Builtin.len_ #[64] 3 #[.map (some V.b)]).run Tryd.prog w1 = .ok (.int .i64 (ln : Int)) w1 from fun w1 hv => by
    obtain ⟨n, hn⟩ := hv.map
    have := hn.len (t := 64) (e := 70) Tryd.underlying64 3
    rw [mapD_size, act_F, act_b, ← hln] at this
    exact this)
  have HFRE := Lib.hid (show ∀ w1, VCore w1 a (actZ V) → Calls Tryd.prog 28 #[.pointer (some ⟨a, 0, none⟩)] w1 fun e w' => e = .returned (.int .i64 (fr : Int)) ∧ Below w1.heap.size w1 w' from fun w1 hv => (free_any a (actZ V) w1 hv).mono fun e w' ⟨he, hb⟩ => ⟨by rw [he, act_F, act_room]; congr 2; have := HH.out.used; omega, hb⟩)
  clear hth hf hfr hln
  go_enter Tryd.func10, Tryd.ntmps10
  go_upto_region 8 with (first
      | (go_at_call 26; refine HM.out.mono ?_; rintro e w0 ⟨rfl, hb⟩; have HB0 := Lib.hid hb; clear hb)
      | (go_at_call 27; refine (HAC2.out _ HB0.out).mono ?_; rintro e w1 ⟨rfl, hv, hf⟩; have HV := Lib.hid hv; have HF := Lib.hid hf; clear hv hf))
  have H01 := Lib.hid (show Fr (fun i => i = a) w w1 from (Fr.of_below HB0.out).trans HF.out)
  have hlook := HLK.out w1 HV.out
  have c2 := HV.out.blk.cell 2
  rw [act_b] at c2
  simp at c2
  go_upto_region 9 with fail
  obtain ⟨w2, hw2⟩ : ∃ w2, w2 = w1.alloc (.cells #[.slice fA fn fc, .int .i64 fs] 70) := ⟨_, rfl⟩
  have hb2 : Below w1.heap.size w1 w2 := by rw [hw2]; exact bpush (Below.refl _ _) _
  have HV2 := Lib.hid (HV.out.below hb2)
  have HB2 := Lib.hid hb2
  have HK2 := Lib.hid (show Blk w2 w1.heap.size 70 #[.slice fA fn fc, .int .i64 fs] by rw [hw2]; exact Blk.new _ _ _)
  obtain ⟨g, hg⟩ : ∃ g, g = w1.heap.size := ⟨_, rfl⟩
  have HG := Lib.hid hg
  rw [← hw2]
  rw [← hg] at HK2 ⊢
  clear hw2 hb2 hg hlook c2
  have HWG := Lib.hid (show w.heap.size ≤ g by have := HG.out; have := H01.out.size; omega)
  have HGA := Lib.hid (show a < g ∧ V.b < g from ⟨by have := HH.out.core.la; have := HWG.out; omega, by have := HH.out.core.lb; have := HWG.out; omega⟩)
  have hcase : fr < nb ∨ (nb ≤ fr ∧ th = false ∧ 200 ≤ ln) ∨ (nb ≤ fr ∧ th = true) ∨ (nb ≤ fr ∧ th = false ∧ ln < 200) := by
    cases th <;> simp <;> omega
  have HFULL := Lib.hid (show fullZ V s bs.length ↔ fr < nb ∨ (th = false ∧ 200 ≤ ln) by
    unfold fullZ
    rw [← HNB.out, ← HFR.out, ← HLN.out, HTH.out]
    cases lookF V.F s <;> simp)
  have hfull : (fr < nb ∨ (nb ≤ fr ∧ th = false ∧ 200 ≤ ln)) ∨ (nb ≤ fr ∧ (th = true ∨ (th = false ∧ ln < 200))) := by
    rcases hcase with h | h | ⟨h, h2⟩ | ⟨h, h2⟩
    · exact .inl (.inl h)
    · exact .inl (.inr h)
    · exact .inr ⟨h, .inl h2⟩
    · exact .inr ⟨h, .inr h2⟩
  clear hcase
  have HSZ := Lib.hid (And.intro hfb hlb)
  rcases hfull with hc | ⟨hc, hd⟩
  · have HU := Lib.hid (show fullZ V s bs.length from HFULL.out.2 (hc.imp id fun h => h.2))
    rcases hc with hc | ⟨hc, rfl, hc2⟩
    · have k1 : decide ((fr : Int) < (nb : Int)) = true := by simp; omega
      have k3 : ¬ (nb ≤ fr) := by omega
      clear hc HLEN hfb hlb
      go_wp2_with (go_at_call 28; refine (HFRE.out _ HV2.out).mono ?_; rintro e w3 ⟨rfl, hb⟩; have HB3 := Lib.hid hb; clear hb)
      go_ret
      refine ⟨actZ V, by rw [HNS.out, if_neg HBK.out, if_pos HU.out]; rfl, by rw [HNS.out, if_neg HBK.out, if_pos HU.out]; exact norm_act V, (Left.turn HH.out HV.out H01.out (act_F V) (act_b V) (act_room V)).andBelow (HB2.out.trans (HB3.out.mono HB2.out.size))⟩
    · have k1 : decide ((fr : Int) < (nb : Int)) = false := by simp; omega
      have k2 : decide ((200 : Int) ≤ (ln : Int)) = true := by simp; omega
      clear hfb hlb
      go_wp2_with (go_at_call 28; refine (HFRE.out _ HV2.out).mono ?_; rintro e w3 ⟨rfl, hb⟩; have hlen := HLEN.out w3 (HV2.out.below hb); have c2 : w3.cell? ⟨a, 2, none⟩ = some (.map (some V.b)) := (by have h5 := (HV2.out.below hb).blk.cell 2; rw [act_b] at h5; simpa using h5); have HB3 := Lib.hid hb; clear hb)
      go_ret
      refine ⟨actZ V, by rw [HNS.out, if_neg HBK.out, if_pos HU.out]; rfl, by rw [HNS.out, if_neg HBK.out, if_pos HU.out]; exact norm_act V, (Left.turn HH.out HV.out H01.out (act_F V) (act_b V) (act_room V)).andBelow (HB2.out.trans (HB3.out.mono HB2.out.size))⟩
  · have HU := Lib.hid (show ¬ fullZ V s bs.length from fun h => by
      rcases HFULL.out.1 h with h | ⟨h1, h2⟩
      · omega
      · rcases hd with h | ⟨_, h⟩
        · rw [h] at h1; cases h1
        · omega)
    have HD := Lib.hid hd
    have HNF := Lib.hid hc
    have k1 : decide ((fr : Int) < (nb : Int)) = false := by simp; omega
    have hd2 : th = true ∨ (th = false ∧ ¬ (200 ≤ ln)) := hd.imp id fun h => ⟨h.1, by omega⟩
    have HTH2 := Lib.hid (show (th = true → ∃ f, lookF V.F s = some f) ∧ (th = false → lookF V.F s = none ∧ ln < 200) from ⟨fun h => by rw [HTH.out] at h; exact Option.isSome_iff_exists.1 h, fun h => ⟨by rw [HTH.out] at h; simpa using h, by rcases hd with h' | h'; rw [h] at h'; cases h'; exact h'.2⟩⟩)
    clear hfb hlb hd HD HTH HLK HFULL
    have HPT := Lib.hid (show ∀ (A : Option Addr) (c : Nat) (xs : List Int), usedF (putF V.F ⟨s, A, fn + nb, c, fs, xs⟩) ≤ V.room ∧ (putF V.F ⟨s, A, fn + nb, c, fs, xs⟩).length ≤ 200 from fun A c xs => by
      have h1 := used_put HH.out.core.one ⟨s, A, fn + nb, c, fs, xs⟩
      have e : fn = ((lookF V.F s).map FZ.n).getD 0 := by
        have := congrArg FZ.n HF0.out
        simp only at this
        rw [this]; unfold lkF; cases lookF V.F s <;> rfl
      have := HH.out.used
      have := HFR.out
      have := HNF.out
      refine ⟨by simp only at h1; omega, ?_⟩
      rcases hd2 with h | ⟨h, _⟩
      · obtain ⟨g, hg⟩ := HTH2.out.1 h
        have := len_put_some (f := ⟨s, A, fn + nb, c, fs, xs⟩) hg
        have := HH.out.len
        omega
      · have h3 := (HTH2.out.2 h).2
        have := len_put V.F ⟨s, A, fn + nb, c, fs, xs⟩
        have := HLN.out
        omega)
    rcases hd2 with rfl | ⟨rfl, hl2⟩
    all_goals
      go_upto_region 11 with (go_at_call 28; refine (HFRE.out _ HV2.out).mono ?_; rintro e w3 ⟨rfl, hb⟩; have hlen := HLEN.out w3 (HV2.out.below hb); have c2 : w3.cell? ⟨a, 2, none⟩ = some (.map (some V.b)) := (by have h5 := (HV2.out.below hb).blk.cell 2; rw [act_b] at h5; simpa using h5); have HB3 := Lib.hid hb; clear hb)
      clear hlen c2 HLEN HFRE HAC2 HM
      have H03 := Lib.hid (show Fr (fun i => i = a) w w3 from (H01.out.trans (Fr.of_below HB2.out)).trans (Fr.of_below HB3.out))
      have HV3 := Lib.hid (HV2.out.below HB3.out)
      have HK3 := Lib.hid (show Blk w3 g 70 #[.slice fA fn fc, .int .i64 fs] from HK2.out.below HB3.out HK2.out.lt)
      have hrow3 : Row w3 Ab (u8s bs) := by
        by_cases hbs : bs = []
        · exact .inl (by rw [hbs]; rfl)
        · exact HROW.out.fr H03.out (fun b o e k => HX.out hbs b o e (.inl k))
      have HROW3 := Lib.hid hrow3
      clear hrow3
      obtain ⟨ho0, hby0, hsf0, hnm0, hft0, hap0⟩ := HLO.out
      have HO0 := Lib.hid ho0
      have HFT0 := Lib.hid hft0
      have HO3 := Lib.hid (show w3.ownsRow B 5 1 (.slice fA fn fc) fn (u8s fb) from by
        have h := ho0.fr H03.out (fun b e k => by
          subst k
          exact absurd e (own_not_core HH.out.core ho0).1)
        exact h)
      have HS2 := Lib.hid (show (fn + nb) * 1 ≤ 140737488355328 by have := HFN.out; have := HH.out.core.used; have := HNF.out; have := HSZ.out.1; omega)
      have HBW := Lib.hid (show B ≤ w3.heap.size by have := HH.out.ba; have := HH.out.core.la; have := H03.out.size; omega)
      have HNG := Lib.hid (show (Value.slice fA fn fc).ownBlock ≠ some g from fun e => by have h1 := (ho0.lt (b := g) e).1; have := HWG.out; omega)
      have HKG := Lib.hid (show ∀ w4, w3.grownBy w4 (Value.slice fA fn fc).ownBlock → w4.cell? ⟨g, 0, none⟩ = some (.slice fA fn fc) ∧ w4.frozen? ⟨g, 0, none⟩ = false ∧ Blk w4 g 70 #[.slice fA fn fc, .int .i64 fs] from fun w4 hg => by
        have h1 := HK3.out.grown hg HNG.out
        have h2 := h1.cell 0
        simp at h2
        exact ⟨h2, h1.frozen 0, h1⟩)
      have b0 := HK3.out.cell 0
      simp at b0
      clear ho0 hby0 hsf0 hft0 hap0
      go_upto_region 12 with (at_builtin; refine wpList_append_u8s rfl _ _ rfl B (.slice fA fn fc) fn (u8s fb) rfl Ab nb cb bs rfl HO3.out HROW3.out HNB.out HCB.out HAB.out HS2.out HBW.out ?_; intro v4 w4 ho4 hg4 hd4; rw [u8s_app] at ho4; obtain ⟨A4, c4, rfl⟩ := own_is ho4; obtain ⟨k0, kf, kb⟩ := HKG.out _ hg4; have HK4 := Lib.hid kb; clear kb; have HO4 := Lib.hid ho4; have HG4 := Lib.hid hg4; have HD4 := Lib.hid hd4; clear ho4 hg4 hd4)
      obtain ⟨w5, hw5⟩ : ∃ w5, w5 = w4.setCell ⟨g, 0, none⟩ (.slice A4 (fn + nb) c4) := ⟨_, rfl⟩
      have h45 : Fr (fun i => i = g) w4 w5 := by rw [hw5]; exact (Fr.refl (fun i => i = g) w4).set_ (.inl (show g = g from rfl)) _
      have HK5 := Lib.hid (show Blk w5 g 70 #[.slice A4 (fn + nb) c4, .int .i64 fs] by rw [hw5]; exact HK4.out.set_ 0 _)
      have hnc := own_not_core HH.out.core HO0.out
      have h34 := Fr.of_grown HG4.out
      have hv4 : VCore w4 a (actZ V) := HV3.out.fr h34 (fun e => hnc.1 e) (fun e => hnc.2 (by rw [act_b] at e; exact e))
      have HV5 := Lib.hid (hv4.fr h45 (by have := HGA.out; omega) (by rw [act_b]; have := HGA.out; omega))
      have HO5 := Lib.hid (show OwnF w5 B ⟨s, A4, fn + nb, c4, fs, fb ++ bs⟩ from OwnF.fr (f := ⟨s, A4, fn + nb, c4, fs, fb ++ bs⟩) HO4.out h45 (fun b e k => by
        subst k
        have e' : (Value.slice A4 (fn + nb) c4).ownBlock = some b := e
        rcases HD4.out with h | h
        · exact HNG.out (h.symm.trans e')
        · have h1 := h.symm.trans e'
          injection h1 with h1
          have := HK3.out.lt
          omega))
      have HP := Lib.hid (put_any a (actZ V) s A4 (fn + nb) c4 fs (fb ++ bs) w5 HV5.out hs (by
        have e : (lkF (actZ V).F s).n = fn := by rw [act_F, ← HF0.out]
        rw [e, act_F]
        have := HH.out.used
        have := HH.out.core.room
        have := HFR.out
        have := HNF.out
        omega) (by rw [act_F]; have := HH.out.len; omega))
      have H45 := Lib.hid h45
      have H34 := Lib.hid h34
      have HW5 := Lib.hid hw5
      rw [← HW5.out]
      clear hw5 h45 h34 hv4 hnc b0 k0 kf HKG
      have b0 := HK5.out.cell 0
      have b1 := HK5.out.cell 1
      simp at b0 b1
      go_wp2_with (go_at_call 29; refine HP.out.mono ?_; rintro e w6 ⟨rfl, hv6, hf6⟩; have HV6 := Lib.hid hv6; have HF6 := Lib.hid hf6; clear hv6 hf6)
      go_ret
      have h56 : Fr (fun i => i = a ∨ i = V.b) w5 w6 := HF6.out.mono fun i _ h => by
        rcases h with h | h
        · exact .inl h
        · exact .inr (h.trans (act_b V))
      have h06 : Fr (fun i => i = a ∨ i = V.b ∨ blkF ⟨nm, fA, fn, fc, fs, fb⟩ = some i) w w6 := by
        have h3 : Fr (fun i => i = a ∨ i = V.b ∨ blkF ⟨nm, fA, fn, fc, fs, fb⟩ = some i) w w3 := H03.out.mono fun i _ h => .inl h
        have h4 := h3.trans (H34.out.mono fun i _ h => .inr (.inr h))
        have h5 : Fr (fun i => i = a ∨ i = V.b ∨ blkF ⟨nm, fA, fn, fc, fs, fb⟩ = some i) w w5 := by
          refine ⟨H45.out.os.trans h4.os, H45.out.tape.trans h4.tape, H45.out.output.trans h4.output, Nat.le_trans h4.size H45.out.size, fun i hi k => ?_⟩
          exact (H45.out.block i (Nat.lt_of_lt_of_le hi h4.size) (by have := HWG.out; omega)).trans (h4.block i hi k)
        exact h5.trans (h56.mono fun i _ h => h.imp id .inl)
      obtain ⟨ho0, hby0, hsf0, _, hft0, hap0⟩ := HLO.out
      have hrow : ∀ x ∈ V.F, x.name ≠ s → OwnF w6 B x := fun x hx hne => (HH.out.own x hx).fr h06 fun b e k => by
        have hn := HH.out.not_a hx
        rcases k with k | k | k
        · exact hn.1 (by rw [e, k])
        · exact hn.2 (by rw [e, k])
        · exact hap0 x hx hne b k e
      have hown : OwnF w6 B ⟨s, A4, fn + nb, c4, fs, fb ++ bs⟩ := HO5.out.fr h56 fun b e k => by
        have hn := own_not_core HV5.out HO5.out
        rcases k with k | k
        · exact hn.1 (by rw [e, k])
        · exact hn.2 (by rw [act_b, e, k])
      have hblk : ∀ b, blkF ⟨s, A4, fn + nb, c4, fs, fb ++ bs⟩ = some b → blkF ⟨nm, fA, fn, fc, fs, fb⟩ = some b ∨ b = w3.heap.size := fun b e => by
        have e' : (Value.slice A4 (fn + nb) c4).ownBlock = some b := e
        rcases HD4.out with h | h
        · exact .inl (h.symm.trans e')
        · have h1 := h.symm.trans e'
          injection h1 with h1
          exact .inr h1.symm
      have h3s := H03.out.size
      refine ⟨putZ (actZ V) ⟨s, A4, fn + nb, c4, fs, fb ++ bs⟩, by rw [HNS.out, if_neg HBK.out, if_neg HU.out]; rfl, ?_, put_left HH.out (act_F V) (act_b V) (act_room V) HV6.out (h06.mono fun i _ h => ?_) hrow hown ?_ ?_ (name_size HQN.out.symm) (fun x hx hne b e k => ?_) (HPT.out _ _ _).1 (HPT.out _ _ _).2 fun b e => ?_⟩
      · rw [HNS.out, if_neg HBK.out, if_neg HU.out]
        show normZ (putZ (actZ V) _) = putZ (actZ (normZ V)) _
        rw [← norm_act, show lkF (normZ V).F s = normF (lkF V.F s) from norm_lk V.F s, ← HF0.out]
        unfold normZ putZ
        simp only [norm_put]
        unfold addF normF
        simp only [HNB.out, hnm0]
      · rcases h with h | h | h
        · exact .inl h
        · exact .inr (.inl h)
        · exact hft0 i h
      · intro x hx
        rcases List.mem_append.1 hx with h | h
        · exact hby0 x h
        · exact HBY.out x h
      · show fs ≤ fn + nb
        have : fs ≤ fn := hsf0
        omega
      · rcases hblk b e with h | h
        · exact hap0 x hx hne b h k
        · have := ((HH.out.own x hx).lt k).1
          omega
      · rcases hblk b e with h | h
        · exact .inl (hft0 b h)
        · exact .inr (by omega)
end Go.Proofs.YthogafecplhckaaDoor
namespace Go.Proofs.YthogafecplhckaaDoor
open Go.RowKit Go.Maps Go.Shelf Go.Lib
set_option linter.unusedSimpArgs false
set_option linter.unusedVariables false
def sortD (L : List ByteArray) : List (List UInt8) := (L.map dat).mergeSort fun x y => decide (x ≤ y)
theorem sortD_len (L : List ByteArray) : (sortD L).length = L.length := by unfold sortD; rw [List.length_mergeSort, List.length_map]
theorem sortD_pw (L : List ByteArray) : (sortD L).Pairwise (· ≤ ·) := by
  have := List.pairwise_mergeSort (le := fun x y : List UInt8 => decide (x ≤ y)) (fun a b c h1 h2 => by simp at *; exact List.le_trans h1 h2) (fun a b => by
    rcases List.le_total a b with h | h <;> simp [h]) (L.map dat)
  exact this.imp fun h => of_decide_eq_true h
theorem texts_enc (L : List ByteArray) : texts L = (L.map dat).map encStr := by
  simp only [texts, List.map_map]
  refine List.map_congr_left fun s _ => ?_
  show Value.string s = Value.string (ofD (dat s))
  rw [of_dat]
theorem texts_ofD (zs : List (List UInt8)) : zs.map encStr = texts (zs.map ofD) := by
  have e : dat ∘ ofD = id := funext fun l => dat_of l
  have e2 : (zs.map ofD).map dat = zs := by rw [List.map_map, e, List.map_id]
  rw [texts_enc, e2]
def VReadPost (w : World) (V : VZ) (s : ByteArray) (e : Ending) (w' : World) : Prop :=
  ∃ D n k, e = .returned (.tuple #[.slice D n k, .bool (lookF V.F s).isSome]) ∧ w'.ownsRow w.heap.size 5 1 (.slice D n k) n (u8s (lkF V.F s).bs) ∧ n = (lkF V.F s).bs.length ∧ n ≤ 16777216 ∧ Below w.heap.size w w'
set_option maxRecDepth 100000 in
set_option maxHeartbeats 8000000 in
theorem read_any (B a : Nat) (V : VZ) (s : ByteArray) (w : World) (h : VRep w B a V) (hs : s.size ≤ 9223372036854775807) :
    Calls Tryd.prog 25 #[.pointer (some ⟨a, 0, none⟩), .string s] w (VReadPost w V s) := by
  have hlo := (lk_own h s).1
  have hle := lk_le s h.core.one
  have hlook := (look_run h.core s hs 0).2
  obtain ⟨f, hf⟩ : ∃ f, f = lkF V.F s := ⟨_, rfl⟩
  rw [← hf] at hlo hle hlook
  have HF := Lib.hid hf
  have hn := hlo.n
  have c2 := h.core.blk.cell 2
  simp at c2
  have HU := Lib.hid (show f.n ≤ 16777216 by have := h.core.used; omega)
  obtain ⟨th, hth⟩ : ∃ th, th = (lookF V.F s).isSome := ⟨_, rfl⟩
  rw [← hth] at hlook
  have HTH := Lib.hid hth
  obtain ⟨nm, fA, fn, fc, fs, fb⟩ := f
  obtain ⟨A', c', e, hr, hc, ha⟩ := own_slice hlo
  cases e
  have hlook2 : (Instr.lookup 64 (.map (some V.b)) (.string s) true).run Tryd.prog w = .ok (.tuple #[.agg #[.slice fA fn fc, .int .i64 fs], .bool th]) w := hlook
  have HN := Lib.hid hn
  have HC := Lib.hid (show ∀ w1, Below w.heap.size w w1 → Calls Tryd.prog 53 #[.slice fA fn fc] w1 _ from fun w1 hb => cloneB_any fA fn fc (u8s fb) w1 (hr.keep (Nat.le_refl _) hb) (by rw [u8s_len]; simp only at hn; omega) (one_u8s _) hc ha (by have := HU.out; simp only at this; omega))
  have HB2 := Lib.hid (show Below w.heap.size w (w.alloc (.cells #[.slice fA fn fc, .int .i64 fs] 70)) from bpush (Below.refl _ _) _)
  clear hlook hlo hle hf hn hth h hr hc ha
  go_enter Tryd.func25, Tryd.ntmps25
  go_wp2_with (go_at_call 53; refine (HC.out _ HB2.out).mono ?_; rintro e w2 ⟨D, k, rfl, ho, hb⟩; have HO := Lib.hid ho; have HB := Lib.hid hb; clear ho hb)
  go_ret2
  exact ⟨D, fn, k, by rw [← HTH.out]; rfl, by rw [← HF.out]; exact own_less HO.out HB2.out.size, by rw [← HF.out]; exact HN.out, HU.out, bthen HB2.out HB.out⟩
def namesF (F : List FZ) : List ByteArray := F.map FZ.name
theorem names_rising {F : List FZ} (h : oneEach F) : rising (namesF F) := by
  unfold namesF rising
  rw [List.pairwise_map]
  exact h.imp fun h => (bb_lt _ _).1 h
theorem mem_names {F : List FZ} (h : oneEach F) {s : ByteArray} : s ∈ namesF F ↔ (lookF F s).isSome = true := by
  unfold namesF
  rw [List.mem_map]
  constructor
  · rintro ⟨f, hf, rfl⟩
    rw [look_some h hf]; rfl
  · intro hs
    obtain ⟨f, hf⟩ := Option.isSome_iff_exists.1 hs
    obtain ⟨h1, h2⟩ := look_name hf
    exact ⟨f, h2, h1⟩
theorem same_dat (s t : ByteArray) : (Lit.string (dat t)).sameKey (.string (dat s)) = decide (t = s) := by
  show (dat t == dat s) = _
  by_cases h : t = s
  · subst h; simp
  · rw [decide_eq_false h]
    exact beq_eq_false_iff_ne.2 fun e => h (dat_inj e)
/-- The names that have come: each once, those that are no longer to come. -/
structure Came (F : List FZ) (left : Lit → Bool) (L : List ByteArray) : Prop where
  nd : L.Nodup
  mem : ∀ s, s ∈ L ↔ (lookF F s).isSome = true ∧ left (.string (dat s)) = false
  sub : ∀ s, left (.string (dat s)) = true → (lookF F s).isSome = true
theorem Came.start (F : List FZ) : Came F (Maps.has (mapD F)) [] := by
  refine ⟨List.nodup_nil, fun s => ?_, fun s h => by rw [mapD_has] at h; exact h⟩
  rw [mapD_has]
  cases lookF F s <;> simp
theorem Came.step {F : List FZ} {left : Lit → Bool} {L : List ByteArray} {x : ByteArray} (h : Came F left L) (hx : left (.string (dat x)) = true) : Came F (fun z => left z && !z.sameKey (.string (dat x))) (L ++ [x]) := by
  have hnx : x ∉ L := fun k => by have := ((h.mem x).1 k).2; rw [hx] at this; cases this
  refine ⟨?_, fun s => ?_, fun s hs => ?_⟩
  · rw [List.nodup_append]
    exact ⟨h.nd, by simp, fun a ha b hb => by simp at hb; subst hb; exact fun e => hnx (e ▸ ha)⟩
  · rw [List.mem_append, h.mem, List.mem_singleton]
    simp only [same_dat]
    by_cases e : s = x
    · subst e; simp [hx, h.sub s hx]
    · simp [e]
  · simp only [Bool.and_eq_true] at hs
    exact h.sub s hs.1
theorem Came.fin {F : List FZ} (hF : oneEach F) {left : Lit → Bool} {L : List ByteArray} (h : Came F left L) (hl : ∀ kl, left kl = false) : sortD L = (namesF F).map dat ∧ L.length = F.length := by
  have hr : rising ((sortD L).map ofD) := by
    unfold rising
    rw [List.pairwise_map]
    have h1 := sortD_pw L
    have h2 : (sortD L).Nodup := by
      have hp : (sortD L).Perm (L.map dat) := List.mergeSort_perm _ _
      refine hp.nodup_iff.2 ?_
      exact (List.pairwise_map).2 (h.nd.imp fun h e => h (dat_inj e))
    refine (h1.and h2).imp ?_
    rintro x y ⟨h3, h4⟩
    show dat (ofD x) < dat (ofD y)
    rw [dat_of, dat_of]
    rcases lt_tri (ofD x) (ofD y) with h | h | h
    · have h' : dat (ofD x) < dat (ofD y) := h
      rw [dat_of, dat_of] at h'; exact h'
    · exact absurd (by have := congrArg dat h; rwa [dat_of, dat_of] at this) h4
    · have h' : dat (ofD y) < dat (ofD x) := h
      rw [dat_of, dat_of] at h'
      exact absurd h' (List.not_lt.2 h3)
  have e := rising_ext hr (names_rising hF) fun s => by
    rw [mem_names hF]
    have hp : (sortD L).Perm (L.map dat) := List.mergeSort_perm _ _
    rw [List.mem_map]
    constructor
    · rintro ⟨x, hx, rfl⟩
      obtain ⟨t, ht, rfl⟩ := List.mem_map.1 (hp.mem_iff.1 hx)
      rw [of_dat]
      exact ((h.mem t).1 ht).1
    · intro hs
      exact ⟨dat s, hp.mem_iff.2 (List.mem_map.2 ⟨s, (h.mem s).2 ⟨hs, hl _⟩, rfl⟩), of_dat s⟩
  have e2 := congrArg (List.map dat) e
  rw [List.map_map, show dat ∘ ofD = id from funext fun l => dat_of l, List.map_id] at e2
  refine ⟨e2, ?_⟩
  have := congrArg List.length e2
  rw [sortD_len] at this
  simpa [namesF] using this
theorem look_held {F : List FZ} {x : ByteArray} {c : Value} (h : ∀ zd : DataW Value, (mapD F).atKey (.string (dat x)) zd = .held c) : ∃ f, lookF F x = some f ∧ c = f.val := by
  have h1 := h .nil
  rw [mapD_at] at h1
  cases hl : lookF F x with
  | none => rw [hl] at h1; cases h1
  | some f => rw [hl] at h1; exact ⟨f, rfl, by injection h1 with h1; exact h1.symm⟩
theorem key_lit {x : ByteArray} {kl : Lit} (h : keyOf Tryd.prog 9 (.string x) = some kl) : kl = .string (dat x) := by
  simp [keyOf, Tryd.underlying9, mapKey] at h
  exact h.2.symm
def ListPost (w : World) (V : VZ) (e : Ending) (w' : World) : Prop :=
  ∃ D k, e = .returned (.slice D V.F.length k) ∧ w'.ownsRow w.heap.size 9 1 (.slice D V.F.length k) V.F.length (texts (namesF V.F)) ∧ Below w.heap.size w w'
end Go.Proofs.YthogafecplhckaaDoor
