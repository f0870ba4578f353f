/- maps.Values of a map of rows (40, its iterator 68); AppendSeq (98), Collect (66) of it. -/
import Derived.Test.YtmmeekmiildliaaGreatDoorIA
import Derived.Test.YtmmeekmiildliaaGreatDoorRH
import Derived.RangeFuncMany
import Derived.RangeFuncLeaves
import Derived.Sort.MapsRangeIn
import Derived.OwnWalkIn
import Derived.TacticsInMore
import Derived.RegionIn
import Derived.LoopNIn
import Derived.LoopIn
import Derived.Shelf.AbstractIn
namespace Go.Proofs.YtmmeekmiildliaaGreatDoor
open Go.RowKit Go.Maps Go.Sort Go.Shelf
set_option linter.unusedSimpArgs false
set_option linter.unusedVariables false
attribute [local go_sem] Oper.semAt_some
theorem nodup_of_map {α β : Type} (f : α → β) : ∀ {L : List α}, (L.map f).Nodup → L.Nodup
  | [], _ => List.nodup_nil
  | a :: L, h => by
    rw [List.map_cons, List.nodup_cons] at h
    exact List.nodup_cons.2 ⟨fun hm => h.1 (List.mem_map_of_mem hm), nodup_of_map f h.2⟩
theorem map_nodup_inj {α β : Type} {f : α → β} : ∀ {L : List α}, (L.map f).Nodup → ∀ {a b : α}, a ∈ L → b ∈ L → f a = f b → a = b
  | [], _, _, _, ha, _, _ => absurd ha List.not_mem_nil
  | x :: L, h, a, b, ha, hb, e => by
    rw [List.map_cons, List.nodup_cons] at h
    rcases List.mem_cons.1 ha with rfl | ha'
    · rcases List.mem_cons.1 hb with rfl | hb'
      · rfl
      · exact absurd (e ▸ List.mem_map_of_mem hb') h.1
    · rcases List.mem_cons.1 hb with rfl | hb'
      · exact absurd (e ▸ List.mem_map_of_mem ha') h.1
      · exact map_nodup_inj h.2 ha' hb' e
theorem vz_inj : ∀ {c : Value} {z : RZ}, DataW.held (H := Value) c = .held (vz z) → c = vz z := fun h => by injection h
set_option maxRecDepth 100000 in
set_option maxHeartbeats 4000000 in
theorem vals_in (n l Bm b nn : Nat) (D0 : DataW Value) (Z : List RZ) (hD : MapIs D0 Z) (J : List RZ → World → Prop) (hn : 1 ≤ n)
    (hY : ∀ pre z W, J pre W → pre.length < Z.length → z ∈ Z → YieldAt Fence.wide (n - 1) Tryz.prog l #[.agg (encR z).toArray] W fun e W' => e = .returned (.bool true) ∧ J (pre ++ [z]) W' ∧ KeepsWalks W W')
    (W : World) (hJ : AbidesFrom W.heap.size J) (hm : W.cell? ⟨Bm, 0, none⟩ = some (.map (some b))) (hown : W.ownsMap Tryz.prog 9 RM b nn D0) (h0 : J [] W) :
    CallsIn Fence.wide n Tryz.prog 68 #[.func (.yield l) #[] #[], .pointer (some ⟨Bm, 0, none⟩)] W fun e W' => (∃ v, e = .returned v) ∧ ∃ Y : List RZ, Y.Perm Z ∧ J Y W' := by
  refine callsIn_of_wp Tryz.func68 rfl trivial ?_ rfl
  simp only [Tryz.ntmps68, List.size_toArray, List.length_cons, List.length_nil, Nat.reduceAdd, Nat.reduceSub, Array.replicate_succ, Array.replicate_zero, List.push_toArray, List.append_toArray, List.nil_append, List.cons_append]
  gi_wp2_with (first
    | (gi_at_range; refine wpListIn_range_own _ rfl _ 71 rfl 9 59 (string_keyed Tryz.underlying9) Tryz.underlying71 _ b nn _ rfl hown ?_; intro w0 hrg0 hg0 hs0)
    | gi_in)
  go_frame
  gi_loopw [4] (fun _ wr => ∃ (left : Lit → Bool) (cnt : Nat) (ps : List RZ), wr.ranges Tryz.prog 9 RM b W.heap.size nn D0 left cnt ∧ ps.length + cnt ≤ Maps.size D0 ∧ Collected D0 left (ps.map fun z => keyB z.2) ∧ (∀ z ∈ ps, z ∈ Z) ∧ J ps wr)
    (fun _ wr => wr.rangeLeft b W.heap.size)
  case atStart =>
    exact ⟨_, _, [], hrg0, by simp, Collected.start D0, by simp, hJ [] W w0 none h0 hg0 (fun r e => by cases e)⟩
  case round =>
    obtain ⟨left, cnt, ps, hrg, hcs, hC, hV, hJs⟩ := hrel
    gi_wp2_with (first
      | (gi_at_next; refine wpListIn_next_ranges _ rfl _ rfl 9 (string_keyed Tryz.underlying9) RM encStr (fun v : Value => v) (fun key kl hk => by obtain ⟨x, hx, _⟩ := Maps.keyOf_str Tryz.underlying9 hk; exact ⟨x, hx⟩) (fun v y hv => ⟨v, rfl⟩) b W.heap.size nn _ _ _ rfl hrg ?_ ?_)
      | gi_in)
    · intro hc0 hl0
      gi_wp2
      go_end0
      have hnd := nodup_of_map _ hC.1
      refine ⟨⟨_, rfl⟩, ps, (List.perm_ext_iff_of_nodup hnd (nodup_of_map _ hD.nd)).2 fun z => ⟨hV z, fun hz => ?_⟩, hJs⟩
      have h1 := (hC.2 (keyB z.2)).2 ⟨(hD.has _).2 ⟨z, hz, rfl⟩, hl0 _⟩
      obtain ⟨y, hy, e⟩ := List.mem_map.1 h1
      have := map_nodup_inj hD.nd (hV y hy) hz e
      rwa [← this]
    · intro x c kl yd yp w2 cnt2 hkey hlk hv hat hrg2 hlt hg2 hs2 hen
      obtain ⟨x', ex, rfl, _⟩ := Maps.keyOf_str Tryz.underlying9 hkey
      obtain rfl : x = x' := encStr_inj ex
      have ez : yd = .held c := by have := Option.some.inj hv; exact (congrArg Prod.fst this).symm
      have hhas : has D0 (.string x) = true := ((hC.step hlk hat).2 x).1 (by simp) |>.1
      obtain ⟨z, hz, rfl⟩ := (hD.has x).1 hhas
      obtain rfl : c = vz z := vz_inj (by rw [← ez, ← hat (.held c)]; exact hD.at_ z hz _)
      have hJ2 : J ps w2 := hJ _ wr w2 (some W.heap.size) hJs hg2 (fun r e => by cases e; exact ⟨Nat.le_refl _, hrg.iter_walk⟩)
      have hJ3 : J ps (w2.alloc (.cells (encR z).toArray 59)) := hJ _ w2 _ none hJ2 (World.grownBy_alloc w2 _ none) (fun r e => by cases e)
      have hpl : ps.length < Z.length := by have := hD.size; omega
      have hrg2' := hrg2.alloc (.cells (encR z).toArray 59)
      have hC2 : Collected D0 (fun y => left y && !y.sameKey (.string (keyB z.2))) ((ps ++ [z]).map fun z => keyB z.2) := by simpa using hC.step hlk hat
      have hV2 : ∀ y ∈ ps ++ [z], y ∈ Z := fun y hy => (List.mem_append.1 hy).elim (hV y) (fun e => by rw [List.mem_singleton.1 e]; exact hz)
      obtain ⟨fn, tmps, assign, body, hy, hR⟩ := hY ps z _ hJ3 hpl hz
      have HR := Lib.hid hR
      have HC2 := Lib.hid hC2
      have HV2 := Lib.hid hV2
      have HRG := Lib.hid hrg2'
      have HLT := Lib.hid (show ps.length + 1 + cnt2 ≤ Maps.size D0 by omega)
      have HM : Hid (cnt2 < wr.rangeLeft b W.heap.size) := Lib.hid (by rw [hrg.left_eq]; exact hlt)
      obtain ⟨⟨D, dn, dc, G, gn, gc⟩, ⟨t, Lx, u, X⟩⟩ := z
      simp only [encR_eq, vz] at *
      clear hs2 hR hC2 hV2 hrg2' hat hv hkey hJ2 hJ3 hlt hrg2 hrg
      gi_wp2
      try (refine ⟨(fun h => by simp [Fence.wide] at h), ?_⟩)
      refine HR.out.mono ?_
      rintro e W3 ⟨rfl, hJ3, hk3⟩
      have hrg3 := HRG.out.of_walks hk3
      gi_wp2
      go_roundw
      case rel => exact ⟨_, cnt2, _, hrg3, by have := HLT.out; simp; omega, HC2.out, HV2.out, hJ3⟩
      case measure => rw [hrg3.left_eq]; exact HM.out
theorem vmaker (b : Option Nat) (w : World) : Calls Tryz.prog 40 #[.map b] w fun e w' => e = .returned (.func (.func 68) #[] #[.pointer (some ⟨w.heap.size, 0, none⟩)]) ∧ w' = w.alloc (.cells #[.map b] 71) := by
  go_enter Tryz.func40, Tryz.ntmps40
  go_wp2_with fail
  go_ret
  exact ⟨rfl, rfl⟩
end Go.Proofs.YtmmeekmiildliaaGreatDoor
