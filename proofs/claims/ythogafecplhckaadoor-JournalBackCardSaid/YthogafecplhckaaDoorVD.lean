/- A file in its place; a file gone. -/
import Derived.Test.YthogafecplhckaaDoorVC
namespace Go.Proofs.YthogafecplhckaaDoor
open Go.RowKit Go.Maps
set_option linter.unusedSimpArgs false
set_option linter.unusedVariables false
theorem lk_n {V : VZ} (s : ByteArray) (h : oneEach V.F) : (lkF V.F s).n = ((lookF V.F s).map FZ.n).getD 0 := by
  unfold lkF; cases lookF V.F s <;> rfl
theorem lk_le {F : List FZ} (s : ByteArray) (h : oneEach F) : (lkF F s).n ≤ usedF F := by
  have := used_drop (s := s) h
  have e : (lkF F s).n = ((lookF F s).map FZ.n).getD 0 := by unfold lkF; cases lookF F s <;> rfl
  omega
theorem Fr.undrew {S : Nat → Prop} {w w' : World} {n : Nat} (h : Fr S (w.drewN n) w') : Fr S w w' := ⟨h.os, h.tape, h.output, h.size, h.block⟩
theorem field63 (A : Option Addr) (n c safe : Nat) (w : World) : (Instr.field 70 (.agg #[.slice A n c, .int .i64 safe]) 0).run Tryd.prog w = .ok (.slice A n c) w := by kernel_rfl
def putZ (V : VZ) (f : FZ) : VZ := { V with F := putF V.F f }
def dropZ (V : VZ) (s : ByteArray) : VZ := { V with F := dropF V.F s }
def UpdPost (w : World) (a b : Nat) (V' : VZ) (e : Ending) (w' : World) : Prop := e = .returned (.tuple #[]) ∧ VCore w' a V' ∧ Fr (fun i => i = a ∨ i = b) w w'
set_option maxRecDepth 100000 in
set_option maxHeartbeats 8000000 in
theorem put_any (a : Nat) (V : VZ) (s : ByteArray) (A : Option Addr) (n c safe : Nat) (bs : List Int) (w : World) (h : VCore w a V) (hs : s.size ≤ 9223372036854775807) (hn : usedF V.F + n ≤ 16777216 + (lkF V.F s).n) (hl : V.F.length < 1000000) :
    Calls Tryd.prog 29 #[.pointer (some ⟨a, 0, none⟩), .string s, .agg #[.slice A n c, .int .i64 safe]] w (UpdPost w a V.b (putZ V ⟨s, A, n, c, safe, bs⟩)) := by
  obtain ⟨w1, hw1⟩ : ∃ w1, w1 = w.alloc (.cells #[.slice A n c, .int .i64 safe] 70) := ⟨_, rfl⟩
  have hb1 : Below w.heap.size w w1 := by rw [hw1]; exact bpush (Below.refl _ _) _
  have h1 := h.below hb1
  have HH := Lib.hid h
  have HBX := Lib.hid (show Blk w1 w.heap.size 70 #[.slice A n c, .int .i64 safe] by rw [hw1]; exact Blk.new _ _ _)
  have HLK := Lib.hid (fun m => (look_run h1 s hs m).1)
  have hle := lk_le s h.one
  have hup := used_put h.one ⟨s, A, n, c, safe, bs⟩
  have hlk : (lkF V.F s).n = ((lookF V.F s).map FZ.n).getD 0 := by unfold lkF; cases lookF V.F s <;> rfl
  obtain ⟨g, hg⟩ : ∃ g, g = lkF V.F s := ⟨_, rfl⟩
  rw [← hg] at hle hlk hn HLK
  have HU := Lib.hid (show (usedF V.F : Int) + ((n : Int) - (g.n : Int)) = (usedF (putF V.F ⟨s, A, n, c, safe, bs⟩) : Int) by simp only at hup; omega)
  have HU2 := Lib.hid (show usedF (putF V.F ⟨s, A, n, c, safe, bs⟩) ≤ 16777216 by simp only at hup; omega)
  clear hg hup hlk
  obtain ⟨nm, gA, gn, gc, gs, gb⟩ := g
  have HV1 := Lib.hid h1
  have c1 := h1.blk.cell 1
  have c2 := h1.blk.cell 2
  have f1 := h1.blk.frozen 1
  have hu := h1.used
  simp at c1 c2
  have b0 := HBX.out.cell 0
  have b1 := HBX.out.cell 1
  simp at b0 b1
  obtain ⟨uN, huN⟩ : ∃ u : Nat, u = usedF V.F := ⟨_, rfl⟩
  obtain ⟨uP, huP⟩ : ∃ u : Nat, u = usedF (putF V.F ⟨s, A, n, c, safe, bs⟩) := ⟨_, rfl⟩
  rw [← huN] at c1 HU hu hn hle
  rw [← huP] at HU HU2
  have hw_ : IntKind.i64.wrap ((n : Int) - (gn : Int)) = (n : Int) - (gn : Int) := IntWalk.i64_in _ (by simp only at hle hn; omega)
  have hw2 : IntKind.i64.wrap ((uN : Int) + ((n : Int) - (gn : Int))) = (uP : Int) := by
    have h5 : (uN : Int) + ((n : Int) - (gn : Int)) = (uP : Int) := HU.out
    have := HU2.out
    rw [h5]; exact IntWalk.i64_in _ (by omega)
  have HW1 := Lib.hid hw1
  have HUN := Lib.hid huN
  have HUP := Lib.hid huP
  have hlook : (Instr.lookup 64 (.map (some V.b)) (.string s) false).run Tryd.prog w1.drew = .ok (.agg #[.slice gA gn gc, .int .i64 gs]) w1.drew := HLK.out 1
  have hfld := field63 gA gn gc gs w1.drew
  clear hw1 h h1 huN huP hn hle hu
  go_enter Tryd.func29, Tryd.ntmps29
  go_upto_region 1 with fail
  rw [← HW1.out]
  go_still_tail 19, (by kernel_rfl)
  change wpList _ _ _ _ _ w1.drew
  go_upto_region 2 with fail
  obtain ⟨w2, hw2⟩ : ∃ w2, w2 = (w1.setCell ⟨a, 1, none⟩ (.int .i64 uP)).drew := ⟨_, rfl⟩
  have hf2 : Fr (fun i => i = a) w1 w2 := by rw [hw2]; exact ((Fr.refl (fun i => i = a) w1).set_ (.inl (show a = a from rfl)) _).drew 1
  have hk2 : Blk w2 a 66 #[.int .i64 V.room, .int .i64 (uP : Int), .map (some V.b), .bool V.armed, .int .i64 V.fuse] := by
    rw [hw2]; have := HV1.out.blk.set_ 1 (.int .i64 uP); exact this
  have hag : a ≠ w.heap.size := fun e => by have := HH.out.la; omega
  have hbx2 : Blk w2 w.heap.size 70 #[.slice A n c, .int .i64 safe] := (hf2.block _ HBX.out.lt (fun e => hag e.symm)).trans HBX.out
  obtain ⟨k, hom⟩ : ∃ k, w2.drew.ownsMap Tryd.prog 9 heldR V.b k (mapD V.F) ∧ k < maxLen := by
    obtain ⟨k, es, clock, e, hfit, hsz, hD⟩ := HV1.out.map
    have e2 : w2.drew.heap[V.b]? = some (.map es clock) := (hf2.block V.b HV1.out.lb (fun e => HV1.out.ne e.symm)).trans e
    have hes : es.size = V.F.length := by
      have h1 := congrArg Maps.size hD
      rw [mapD_size] at h1
      have h2 : Maps.size (DataW.map ((es.toList.map (Go.WideElems.rg Tryd.prog 9 heldR)).foldr DataW.insert [])) = es.size := by simp [Maps.size, length_sorted]
      omega
    exact ⟨es.size, ⟨es, clock, e2, hfit, Nat.le_refl _, hD⟩, by unfold maxLen; omega⟩
  have HOM := Lib.hid hom
  have hkey : keyOf Tryd.prog 9 (.string s) = some (.string (dat s)) := Go.WideMaps.keyOf_string_mk Tryd.underlying9 (by unfold maxLen; omega)
  have HKEY := Lib.hid hkey
  have HF2 := Lib.hid hf2
  have HK2 := Lib.hid hk2
  rw [← hw2]
  clear c1 c2 f1 b0 b1 hlook hfld hw_ hw2 hom hkey HLK hf2
  have c2 := hk2.cell 2
  have b0 := hbx2.cell 0
  have b1 := hbx2.cell 1
  simp at c2 b0 b1
  clear hbx2 hk2 hag
  go_still_tail 6, (by kernel_rfl)
  change wpList _ _ _ _ _ w2.drew
  (at_mapUpdate; refine wpList_mapUpdate_in _ rfl _ _ _ 64 rfl 9 70 keyed9 Tryd.underlying64 heldR V.b k (mapD V.F) rfl HOM.out.1 HOM.out.2 _ _ (.string (dat s)) rfl rfl HKEY.out (.held (.agg #[.slice A n c, .int .i64 safe])) [] rfl ?_; intro w3 hown3 hturn3)
  have HM3 := Lib.hid hown3
  have HT3 := Lib.hid hturn3.grown
  clear hown3 hturn3
  go_wp2_with fail
  go_end0
  have hF : Fr (fun i => i = a ∨ i = V.b) w w3 := by
    have h1 : Fr (fun i => i = a ∨ i = V.b) w w1 := Fr.of_below hb1
    have h2 : Fr (fun i => i = a ∨ i = V.b) w1 w2 := HF2.out.mono fun i _ h => .inl h
    have h3 : Fr (fun i => i = a ∨ i = V.b) w2 w3 := (Fr.undrew (n := 1) (Fr.of_grown HT3.out)).mono fun i _ h => Or.inr (by injection h with h; exact h.symm)
    exact (h1.trans h2).trans h3
  refine ⟨rfl, ⟨?_, ⟨k + 1, ?_⟩, one_put HH.out.one _, by show usedF (putF V.F ⟨s, A, n, c, safe, bs⟩) ≤ _; rw [← HUP.out]; exact HU2.out, HH.out.room, HH.out.fuse, ?_⟩, hF⟩
  · have e := HT3.out.block a (show a < w2.drew.heap.size from HK2.out.lt) (by intro e; injection e with e; exact HH.out.ne e)
    have := e.trans HK2.out
    rw [HUP.out] at this
    exact this
  · have h := HM3.out
    have e := mapD_put V.F ⟨s, A, n, c, safe, bs⟩
    simp only at e
    rw [show (DataW.held (FZ.val ⟨s, A, n, c, safe, bs⟩) : DataW Value) = .held (.agg #[.slice A n c, .int .i64 safe]) from rfl] at e
    rw [e] at h
    exact h
  · have := len_put V.F ⟨s, A, n, c, safe, bs⟩
    show (putF V.F ⟨s, A, n, c, safe, bs⟩).length ≤ _
    omega
end Go.Proofs.YthogafecplhckaaDoor
