/- What the walk of IngestOrder (5) keeps. -/
import Derived.Test.YtmmeekmiildliaaGreatDoorJF
import Derived.Test.YtmmeekmiildliaaGreatDoorJG
import Derived.Test.YtmmeekmiildliaaGreatDoorSY
import Derived.Laws.OwnMore
namespace Go.Proofs.YtmmeekmiildliaaGreatDoor
open Go.RowKit
set_option linter.unusedSimpArgs false
set_option linter.unusedVariables false
theorem run_append_rowso (w : World) (ty : TypeId) (base : Nat) (v : Value) (n : Nat) (xs : List Value) (hown : w.ownsRow base 59 4 v n xs) (A : Option Addr) (m c : Nat) (M : List RZ)
    (hrow : Row w A (cellsR M)) (hm : m = M.length) (hmc : m ≤ c) (ha : A = none → c = 0) (h63 : (n + m) * 64 ≤ 140737488355328) (hbase : base ≤ w.heap.size) :
    ∃ v' w', (Builtin.append_ #[46, 46] ty #[v, .slice A m c]).run Tryz.prog w = .ok v' w' ∧ w'.ownsRow base 59 4 v' (n + m) (xs ++ cellsR M) ∧ w.grownBy w' v.ownBlock ∧ (v'.ownBlock = v.ownBlock ∨ v'.ownBlock = some w.heap.size) := by
  obtain ⟨i0, hi0, hz0, hz1, hz2⟩ := info_parts info27
  cases A with
  | none =>
    have e1 : c = 0 := ha rfl
    have e2 : m = 0 := by omega
    have e3 : M = [] := List.eq_nil_of_length_eq_zero (by omega)
    subst e1 e2 e3
    have hrun := run_append_owned_none (P := Tryz.prog) (w := w) base 46 ty 59 i0 4 Tryz.underlying46 hi0 v n xs hown
    exact ⟨v, w, hrun, by simpa [cellsR] using hown, ⟨rfl, rfl, rfl, Nat.le_refl _, fun _ _ _ => rfl⟩, .inl rfl⟩
  | some a =>
    obtain ⟨v', w', hr, h2, h3, _, h5⟩ := run_append_own_at (P := Tryz.prog) w base 46 ty 59 i0 (.agg #[.int .i64 0, .slice none 0 0, .int .i64 0, .slice none 0 0]) 4 64 Tryz.underlying46 hi0 hz0 hz1 hz2 rfl (by decide) v n xs hown a m c (cellsR M) (by rw [cellsR_length, hm]) hrow.at' (one_cellsR M) (by unfold maxLen; omega) h63 hbase
    exact ⟨v', w', hr, h2, h3, h5⟩
theorem step_append_rowso {w : World} {ops : Array Oper} {o : Oper} {a : Act} {K : Act → World → Prop} {Q : Exit → Act → World → Prop} {E : Prop} (hgd : o.guard = none) (s x : Operand)
    (ho : o.op = .call { callee := .builtin .append, args := #[s, x], argTypes := #[46, 46] })
    (base : Nat) (v : Value) (n : Nat) (xs : List Value) (hs : a.eval s = v) (A : Option Addr) (m c : Nat) (M : List RZ) (hx : a.eval x = .slice A m c) (hown : w.ownsRow base 59 4 v n xs)
    (hrow : Row w A (cellsR M)) (hm : m = M.length) (hmc : m ≤ c) (ha : A = none → c = 0) (h63 : (n + m) * 64 ≤ 140737488355328) (hbase : base ≤ w.heap.size)
    (h : ∀ v' w', w'.ownsRow base 59 4 v' (n + m) (xs ++ cellsR M) → w.grownBy w' v.ownBlock → (v'.ownBlock = v.ownBlock ∨ v'.ownBlock = some w.heap.size) → K (a.put o.dst v') w') :
    if Region.wanted o (yielded ops a.tmps) = true then Oper.wp Tryz.prog o a w K Q else E := by
  have hw : Region.wanted o (yielded ops a.tmps) = true := by simp [Region.wanted, hgd]
  rw [if_pos hw]
  obtain ⟨v', w', hr, h2, h3, h4⟩ := run_append_rowso w o.type base v n xs hown A m c M hrow hm hmc ha h63 hbase
  unfold Oper.wp execOp
  simp only [ho, resolve, invoke, builtin, Sem.run_bind, Sem.run_pure, Result.andThen_ok, List.map_toArray, List.map_cons, List.map_nil, hs, hx, hr]
  exact h v' w' h2 h3 h4
theorem wpList_append_rowso {w : World} {ops : Array Oper} {rest : List Oper} {o : Oper} {a : Act} {Q : Exit → Act → World → Prop} (hgd : o.guard = none) (s x : Operand)
    (ho : o.op = .call { callee := .builtin .append, args := #[s, x], argTypes := #[46, 46] })
    (base : Nat) (v : Value) (n : Nat) (xs : List Value) (hs : a.eval s = v) (A : Option Addr) (m c : Nat) (M : List RZ) (hx : a.eval x = .slice A m c) (hown : w.ownsRow base 59 4 v n xs)
    (hrow : Row w A (cellsR M)) (hm : m = M.length) (hmc : m ≤ c) (ha : A = none → c = 0) (h63 : (n + m) * 64 ≤ 140737488355328) (hbase : base ≤ w.heap.size)
    (h : ∀ v' w', w'.ownsRow base 59 4 v' (n + m) (xs ++ cellsR M) → w.grownBy w' v.ownBlock → (v'.ownBlock = v.ownBlock ∨ v'.ownBlock = some w.heap.size) → wpList Tryz.prog ops Q rest (a.put o.dst v') w') :
    wpList Tryz.prog ops Q (o :: rest) a w := by
  refine wpList_plain hgd fun K hK => ?_
  obtain ⟨v', w', hr, h2, h3, h4⟩ := run_append_rowso w o.type base v n xs hown A m c M hrow hm hmc ha h63 hbase
  unfold Oper.wp execOp
  simp only [ho, resolve, invoke, builtin, Sem.run_bind, Sem.run_pure, Result.andThen_ok, List.map_toArray, List.map_cons, List.map_nil, hs, hx, hr]
  exact hK _ _ (h v' w' h2 h3 h4)
theorem NewPost.gen {w w' : World} {g x : Int} {L M : List ByteArray} {e : Ending} (h : NewPost w g L M x e w') : ∃ p, e = .returned (.tuple #[.pointer p, .int .i64 x]) ∧ (x = 0 → ∃ bx mb, p = some ⟨bx, 0, none⟩ ∧ Ix w' w.heap.size bx mb g L M [] 0) ∧ Below w.heap.size w w' := by
  obtain ⟨⟨h0, rfl⟩ | ⟨rfl, bx, mb, rfl, hi⟩, hb⟩ := h
  · exact ⟨_, rfl, fun e => absurd e h0, hb⟩
  · exact ⟨_, rfl, fun _ => ⟨bx, mb, rfl, hi⟩, hb⟩
theorem Ix.kown {w w' : World} {B bx mb nn : Nat} {g : Int} {L M : List ByteArray} {V : List RV} (h2 : Ix w B bx mb g L M V nn) (hk : Kx bx mb w w') {C size n : Nat} {e : TypeId} {v : Value} {xs : List Value} (ho : w.ownsRow C e size v n xs) (he : (73 : TypeId) ≠ e) : w'.ownsRow C e size v n xs := by
  obtain ⟨es2, cl2, hb2⟩ := h2.map
  obtain ⟨A2, n2, c2, E2, m2, d2, hk2, _⟩ := h2.blk
  exact hk.own ho (ho.not_blk hk2 he) (own_not_map ho hb2)
theorem Ix.kblk {w w' : World} {B bx mb nn : Nat} {g : Int} {L M : List ByteArray} {V : List RV} (h2 : Ix w B bx mb g L M V nn) (hk : Kx bx mb w w') {b : Nat} {t : TypeId} {cs : Array Value} (hb : Blk w b t cs) (ht : t ≠ 73) : Blk w' b t cs := by
  obtain ⟨es2, cl2, hb2⟩ := h2.map
  obtain ⟨A2, n2, c2, E2, m2, d2, hk2, _⟩ := h2.blk
  refine (hk.block b hb.lt (fun e => ?_) (fun e => ?_)).trans hb
  · rw [Blk, e] at hb; rw [Blk, hb] at hk2
    injection hk2 with h1; injection h1 with h3 h4 h5
    exact ht h4
  · rw [Blk, e, hb2] at hb; cases hb
theorem Ix.nearT {w w' : World} {B bx mb nn b : Nat} {g : Int} {L M : List ByteArray} {V : List RV} {t : TypeId} {cs : Array Value} (h : Ix w B bx mb g L M V nn) (hb : Blk w b t cs) (h73 : t ≠ 73) (h9 : t ≠ 9) (h64 : t ≠ 64) (hn : Near b w.heap.size w w') : Ix w' B bx mb g L M V nn := by
  obtain ⟨A, n, c, E, m, d, h3, h4, h5⟩ := h.blk
  obtain ⟨D, Z, hown, hD, hV, hO⟩ := h.rows
  have hb3 := hown
  obtain ⟨es, cl, hm, _⟩ := hb3
  have e1 : bx ≠ b := fun e => by
    rw [Blk, e] at h3; rw [Blk, h3] at hb
    injection hb with h1; injection h1 with h3 h4 h5
    exact h73 h4.symm
  have e2 : mb ≠ b := fun e => by rw [Blk, ← e, hm] at hb; cases hb
  refine ⟨h.sch, h.gran, ⟨A, n, c, E, m, d, (hn.block bx h3.lt e1).trans h3, hn.own h4 (Nat.le_refl _) (h4.not_blk hb h9), hn.own h5 (Nat.le_refl _) (h5.not_blk hb h9)⟩, ⟨D, Z, ?_, hD, hV, fun z hz => ?_⟩, h.ok, h.lx, h.lm⟩
  · obtain ⟨es, cl, hb0, hF, hs, he⟩ := hown
    exact ⟨es, cl, (hn.block mb (lt_of_heap hb0) e2).trans hb0, hF, hs, he⟩
  · have ho := hO z hz
    exact ⟨hn.own ho.d (Nat.le_refl _) (ho.d.not_blk hb h9), hn.own ho.g (Nat.le_refl _) (ho.g.not_blk hb h64), ho.sd, ho.sg⟩
theorem Ix.grown29 {w w' : World} {B bx mb nn C k : Nat} {g : Int} {L M : List ByteArray} {V : List RV} {v : Value} {xs : List Value} (h : Ix w B bx mb g L M V nn) (ho29 : w.ownsRow C 29 3 v k xs) (hg : w.grownBy w' v.ownBlock) : Ix w' B bx mb g L M V nn := by
  obtain ⟨A, n, c, E, m, d, h3, h4, h5⟩ := h.blk
  obtain ⟨D, Z, hown, hD, hV, hO⟩ := h.rows
  have hb3 := hown
  obtain ⟨es, cl, hm, _⟩ := hb3
  refine ⟨h.sch, h.gran, ⟨A, n, c, E, m, d, h3.grown hg (ho29.not_blk h3 (by decide)), h4.kept hg (own_not_own h4 ho29 (by decide)), h5.kept hg (own_not_own h5 ho29 (by decide))⟩, ⟨D, Z, hown.kept hg (Ne.symm (own_not_map ho29 hm)), hD, hV, fun z hz => ?_⟩, h.ok, h.lx, h.lm⟩
  have ho := hO z hz
  exact ⟨ho.d.kept hg (own_not_own ho.d ho29 (by decide)), ho.g.kept hg (own_not_own ho.g ho29 (by decide)), ho.sd, ho.sg⟩
theorem one_cellsV (Z : List EV) : ∀ u ∈ cellsV Z, u.oneCell' = true := by
  intro u hu
  unfold cellsV at hu
  obtain ⟨z, _, hz⟩ := List.mem_flatMap.1 hu
  simp only [encV, List.mem_cons, List.not_mem_nil, or_false] at hz
  rcases hz with rfl | rfl | rfl <;> rfl
theorem cellsV_app (Z Y : List EV) : cellsV (Z ++ Y) = cellsV Z ++ cellsV Y := by simp [cellsV]
theorem info29 : (Tryz.prog.info? 29).map (fun i => (i.zero, i.size, i.bytes)) = some (some (.agg #[.int .i64 0, .slice none 0 0, .slice none 0 0]), 3, 56) := by kernel_rfl
theorem own_sliceV {B : Nat} {w : World} {v : Value} {n : Nat} {L : List EV} (h : w.ownsRow B 29 3 v n (cellsV L)) : n = L.length ∧ ∃ A c, v = .slice A n c ∧ Row w A (cellsV L) := by
  have hn : n = L.length := by have := h.1; rw [cellsV_length] at this; omega
  refine ⟨hn, ?_⟩
  rcases h.2 with ⟨rfl, h0⟩ | ⟨g, cap, cur, rfl, _, hb, _, _, _, h4⟩
  · exact ⟨none, 0, by rw [h0], .inl (by rw [List.eq_nil_of_length_eq_zero (by omega : L.length = 0)]; rfl)⟩
  · refine ⟨_, cap, rfl, .inr ⟨g, 0, rfl, fun j u hu => ?_⟩⟩
    have hk : Blk w g 29 cur := hb
    rw [Nat.zero_add, hk.cell, ← Array.getElem?_toList]
    have hj : j < n * 3 := by
      rcases Nat.lt_or_ge j (n * 3) with h1 | h1
      · exact h1
      · rw [List.getElem?_eq_none (by rw [cellsV_length]; omega)] at hu; cases hu
    rw [← h4, List.getElem?_take, if_pos hj] at hu
    exact hu
end Go.Proofs.YtmmeekmiildliaaGreatDoor
