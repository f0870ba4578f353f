/- Fold (the document's). -/
import Derived.Test.YtmmeekmiildliaaGreatDoorSF
import Derived.Test.YtmmeekmiildliaaGreatDoorRU
import Derived.Test.YtmmeekmiildliaaGreatDoorML
import Derived.Deep.DeepCutAuto
namespace Go.Proofs.YtmmeekmiildliaaGreatDoor
open Go.RowKit Go.Shelf
set_option linter.unusedSimpArgs false
set_option linter.unusedVariables false
theorem run_append_rows (w : World) (ty : TypeId) (base : Nat) (v : Value) (n : Nat) (xs : List Value) (hown : w.ownsRow base 59 4 v n xs) (A : Option Addr) (m c : Nat) (M : List RZ)
    (hrow : Row w A (cellsR M)) (hm : m = M.length) (hmc : m ≤ c) (ha : A = none → c = 0) (h63 : (n + m) * 64 ≤ 140737488355328) (hbase : base ≤ w.heap.size) :
    ∃ v' w', (Builtin.append_ #[46, 46] ty #[v, .slice A m c]).run Tryz.prog w = .ok v' w' ∧ w'.ownsRow base 59 4 v' (n + m) (xs ++ cellsR M) ∧ w.grownBy w' v.ownBlock := by
  obtain ⟨i0, hi0, hz0, hz1, hz2⟩ := info_parts info27
  cases A with
  | none =>
    have e1 : c = 0 := ha rfl
    have e2 : m = 0 := by omega
    have e3 : M = [] := List.eq_nil_of_length_eq_zero (by omega)
    subst e1 e2 e3
    have hrun := run_append_owned_none (P := Tryz.prog) (w := w) base 46 ty 59 i0 4 Tryz.underlying46 hi0 v n xs hown
    exact ⟨v, w, hrun, by simpa [cellsR] using hown, ⟨rfl, rfl, rfl, Nat.le_refl _, fun _ _ _ => rfl⟩⟩
  | some a =>
    obtain ⟨v', w', hr, h2, h3, _, h5⟩ := run_append_own_at (P := Tryz.prog) w base 46 ty 59 i0 (.agg #[.int .i64 0, .slice none 0 0, .int .i64 0, .slice none 0 0]) 4 64 Tryz.underlying46 hi0 hz0 hz1 hz2 rfl (by decide) v n xs hown a m c (cellsR M) (by rw [cellsR_length, hm]) hrow.at' (one_cellsR M) (by unfold maxLen; omega) h63 hbase
    exact ⟨v', w', hr, h2, h3⟩
theorem wpList_append_rows {w : World} {ops : Array Oper} {rest : List Oper} {o : Oper} {a : Act} {Q : Exit → Act → World → Prop} (hgd : o.guard = none) (s x : Operand)
    (ho : o.op = .call { callee := .builtin .append, args := #[s, x], argTypes := #[46, 46] })
    (base : Nat) (v : Value) (n : Nat) (xs : List Value) (hs : a.eval s = v) (A : Option Addr) (m c : Nat) (M : List RZ) (hx : a.eval x = .slice A m c) (hown : w.ownsRow base 59 4 v n xs)
    (hrow : Row w A (cellsR M)) (hm : m = M.length) (hmc : m ≤ c) (ha : A = none → c = 0) (h63 : (n + m) * 64 ≤ 140737488355328) (hbase : base ≤ w.heap.size)
    (h : ∀ v' w', w'.ownsRow base 59 4 v' (n + m) (xs ++ cellsR M) → w.grownBy w' v.ownBlock → wpList Tryz.prog ops Q rest (a.put o.dst v') w') :
    wpList Tryz.prog ops Q (o :: rest) a w := by
  refine wpList_plain hgd fun K hK => ?_
  obtain ⟨v', w', hr, h2, h3⟩ := run_append_rows w o.type base v n xs hown A m c M hrow hm hmc ha h63 hbase
  unfold Oper.wp execOp
  simp only [ho, resolve, invoke, builtin, Sem.run_bind, Sem.run_pure, Result.andThen_ok, List.map_toArray, List.map_cons, List.map_nil, hs, hx, hr]
  exact hK _ _ (h v' w' h2 h3)
theorem row_front {w : World} {A : Option Addr} {Z : List RZ} (h : Row w A (cellsR Z)) (k : Nat) : Row w A (cellsR (Z.take k)) := by
  rcases h with h0 | ⟨b, off, rfl, hc⟩
  · have hl := cellsR_length Z
    rw [h0] at hl
    have : Z = [] := List.eq_nil_of_length_eq_zero (by simp at hl; omega)
    subst this
    exact .inl (by simp [cellsR])
  · refine .inr ⟨b, off, rfl, fun j u hu => hc j u ?_⟩
    have e : cellsR Z = cellsR (Z.take k) ++ cellsR (Z.drop k) := by rw [← cellsR_app, List.take_append_drop]
    rw [e, List.getElem?_append_left]
    · exact hu
    · exact (List.getElem?_eq_some_iff.1 hu).1
theorem row_back {w : World} {b off : Nat} {Z : List RZ} (h : Row w (some ⟨b, off, none⟩) (cellsR Z)) (k : Nat) (hk : k ≤ Z.length) : Row w (some ⟨b, off + k * 4, none⟩) (cellsR (Z.drop k)) := by
  rcases h with h0 | ⟨b', off', he, hc⟩
  · have hl := cellsR_length Z
    rw [h0] at hl
    have : Z = [] := List.eq_nil_of_length_eq_zero (by simp at hl; omega)
    subst this
    exact .inl (by simp [cellsR])
  · cases he
    refine .inr ⟨b, off + k * 4, rfl, fun j u hu => ?_⟩
    have e : cellsR Z = cellsR (Z.take k) ++ cellsR (Z.drop k) := by rw [← cellsR_app, List.take_append_drop]
    have hl := cellsR_length (Z.take k)
    rw [List.length_take, Nat.min_eq_left hk] at hl
    have := hc (k * 4 + j) u (by rw [e, List.getElem?_append_right (by omega), hl, Nat.add_sub_cancel_left]; exact hu)
    rwa [← Nat.add_assoc] at this
theorem slice_front (A : Option Addr) (n c k : Nat) (hk : k ≤ n) (hn : n ≤ c) (W : World) : Sem.run Tryz.prog (Instr.slice 46 (.slice A n c) none (some (.int .i64 (k : Int))) none) W = .ok (.slice A k c) W := by
  have e : Tryz.prog.elem 46 = 59 := by kernel_rfl
  have hs : ∀ W, Sem.run Tryz.prog (Go.sizeOf (Tryz.prog.elem 46)) W = .ok 4 W := fun _ => by kernel_rfl
  rw [run_slice_h W 46 A n c (by rw [e]; exact Tryz.underlying46) .i64 k (by omega) (by omega), hs]
  simp only [Result.andThen, sliced, Int.toNat_natCast]
  cases A with
  | none => simp
  | some a =>
    have : a.add 0 = a := by unfold Addr.add; simp
    simp [this]
def backA (A : Option Addr) (c r : Nat) : Option Addr := A.map fun a => if c = r then a else a.add (r * 4)
theorem slice_back (A : Option Addr) (n c r : Nat) (hr : r ≤ n) (hn : n ≤ c) (W : World) : Sem.run Tryz.prog (Instr.slice 46 (.slice A n c) (some (.int .i64 (r : Int))) none none) W = .ok (.slice (backA A c r) (n - r) (c - r)) W := by
  have e : Tryz.prog.elem 46 = 59 := by kernel_rfl
  have hs : ∀ W, Sem.run Tryz.prog (Go.sizeOf (Tryz.prog.elem 46)) W = .ok 4 W := fun _ => by kernel_rfl
  rw [run_slice_l W 46 A n c (by rw [e]; exact Tryz.underlying46) .i64 r (by omega) (by omega), hs]
  simp only [Result.andThen, sliced, Int.toNat_natCast]
  unfold backA
  cases A with
  | none => simp
  | some a => simp only [Option.map_some]; by_cases hc : c = r <;> simp [hc]
theorem row_backA {w : World} {A : Option Addr} {c r : Nat} {Z : List RZ} (h : Row w A (cellsR Z)) (hr : r ≤ Z.length) (hc : Z.length ≤ c) : Row w (backA A c r) (cellsR (Z.drop r)) := by
  cases A with
  | none =>
    rcases h with h0 | ⟨_, _, he, _⟩
    · have hl := cellsR_length Z
      rw [h0] at hl
      have : Z = [] := List.eq_nil_of_length_eq_zero (by simp at hl; omega)
      subst this
      exact .inl (by simp [cellsR])
    · cases he
  | some a =>
    unfold backA
    simp only [Option.map_some]
    by_cases e : c = r
    · rw [List.drop_eq_nil_of_le (by omega)]; exact .inl rfl
    · rw [if_neg e]
      rcases h with h0 | ⟨b, off, he, hcc⟩
      · have hl := cellsR_length Z
        rw [h0] at hl
        have : Z = [] := List.eq_nil_of_length_eq_zero (by simp at hl; omega)
        subst this
        exact .inl (by simp [cellsR])
      · cases he
        have : (⟨b, off, none⟩ : Addr).add (r * 4) = ⟨b, off + r * 4, none⟩ := by
          unfold Addr.add; split
          · rename_i h; rw [h]; rfl
          · rfl
        rw [this]
        exact row_back (.inr ⟨b, off, rfl, hcc⟩) r hr
theorem backA_none {A : Option Addr} {c r : Nat} (ha : A = none → c = 0) : backA A c r = none → c - r = 0 := by
  intro h
  cases A with
  | none => rw [ha rfl]; omega
  | some a => unfold backA at h; simp at h
theorem grown_below4 {w w' : World} {B : Nat} {v : Value} {e : TypeId} {s n : Nat} {xs : List Value} (hown : w.ownsRow B e s v n xs) (hg : w.grownBy w' v.ownBlock) (h : B ≤ w.heap.size) : Below B w w' :=
  ⟨hg.os, hg.tape, hg.output, hg.size, fun i hi => hg.block i (by omega) (by
    rcases hown.2 with ⟨rfl, _⟩ | ⟨g, cap, cur, rfl, hb, _⟩
    · simp [Value.ownBlock]
    · simp [Value.ownBlock]; omega)⟩
/-- A row as they are of one schema. -/
structure RowQ (q dq : Nat) (a : RV) : Prop where
  ok : OkR q a
  dims : a.dims.length = dq
theorem joinR_dims {a b : RV} (h : (joinR a b).2 = 0) : (joinR a b).1.dims = a.dims := by
  unfold joinR at h ⊢
  split
  · rename_i h1
    rw [if_pos h1] at h
    split
    · rename_i h2; rw [if_pos h2] at h; simp at h
    · rename_i h2
      rw [if_neg h2] at h
      split
      · rfl
      · rename_i h3; rw [if_neg h3] at h; exact absurd h h3
  · rename_i h1; rw [if_neg h1] at h; simp at h
/-- Ahead of each row. -/
structure RefSt (w : World) (Z : List RZ) (q dq : Nat) (i : Nat) (B : Option Addr) (c : Nat) (O : List RZ) (W : World) : Prop where
  rows : RowsC W B O
  le : O.length ≤ c
  nil : B = none → c = 0
  len : O.length ≤ i
  ok : ∀ y ∈ O, RowQ q dq y.2
  fold : refF [] (Z.map Prod.snd) = refF (O.map Prod.snd) ((Z.map Prod.snd).drop i)
  below : Below w.heap.size w W
def RefPost (w : World) (Z : List RZ) (e : Ending) (w' : World) : Prop := ∃ B O c x, e = .returned (.tuple #[.slice B O.length c, .int .i64 x]) ∧ refF [] (Z.map Prod.snd) = (O.map Prod.snd, x) ∧ RowsC w' B O ∧ (O.length ≤ c ∧ (B = none → c = 0)) ∧ Below w.heap.size w w'
/-- What is put into the list: z, behind k rows, in the place of those up to r. -/
structure Put (q dq : Nat) (O : List RZ) (x : RV) (k r : Nat) (z : RV) : Prop where
  kl : k ≤ O.length
  rl : r ≤ O.length
  ok : RowQ q dq z
  ins : insK (O.map Prod.snd) x = ((O.take k).map Prod.snd ++ z :: (O.drop r).map Prod.snd, 0)
  rk : k ≤ r
/-- Where a row's place is. -/
structure Plc (O : List RZ) (x : RV) (k : Nat) (q : Bool) : Prop where
  kl : k ≤ O.length
  lo : ∀ j (h : j < O.length), j < k → cmpV O[j].2 x < 0
  hi : q = false → ∃ h : k < O.length, ¬ cmpV O[k].2 x < 0
theorem Plc.cut {O : List RZ} {x : RV} {k : Nat} {q : Bool} (h : Plc O x k q) (he : k < O.length → q = false) : (O.map Prod.snd).takeWhile (below x) = (O.take k).map Prod.snd ∧ (O.map Prod.snd).dropWhile (below x) = (O.drop k).map Prod.snd := by
  have := take_drop_while (below x) (O.map Prod.snd) k (by simpa using h.kl) (fun i hi hik => by simp at hi ⊢; simp [below, h.lo i hi hik]) (fun hk => by
    have hk' : k < O.length := by simpa using hk
    obtain ⟨h1, h2⟩ := h.hi (he hk')
    simp [below]; omega)
  rw [List.map_take, List.map_drop]; exact this
theorem Plc.new {Q dq : Nat} {O : List RZ} {x : RV} {k : Nat} {q : Bool} (h : Plc O x k q) (he : k < O.length → q = false) (hx : RowQ Q dq x) (hn : ∀ hk : k < O.length, cmpV O[k].2 x ≠ 0) : Put Q dq O x k k x := by
  refine ⟨h.kl, h.kl, hx, ?_, Nat.le_refl _⟩
  obtain ⟨e1, e2⟩ := h.cut he
  unfold insK
  rw [e1, e2]
  rcases Nat.lt_or_ge k O.length with hk | hk
  · rw [List.drop_eq_getElem_cons hk, List.map_cons]
    simp only [if_neg (hn hk)]
  · rw [List.drop_eq_nil_of_le hk]; rfl
theorem Plc.one {Q dq : Nat} {O : List RZ} {x : RV} {k : Nat} {q : Bool} (h : Plc O x k q) (he : k < O.length → q = false) (hx : RowQ Q dq x) (hO : ∀ y ∈ O, RowQ Q dq y.2) (hk : k < O.length) (h0 : cmpV O[k].2 x = 0) :
    ((joinR O[k].2 x).2 = 0 → Put Q dq O x k (k + 1) (joinR O[k].2 x).1) ∧ ((joinR O[k].2 x).2 ≠ 0 → insK (O.map Prod.snd) x = ([], (joinR O[k].2 x).2)) := by
  obtain ⟨e1, e2⟩ := h.cut he
  have hins : insK (O.map Prod.snd) x = if (joinR O[k].2 x).2 = 0 then ((O.take k).map Prod.snd ++ (joinR O[k].2 x).1 :: (O.drop (k + 1)).map Prod.snd, 0) else ([], (joinR O[k].2 x).2) := by
    unfold insK
    rw [e1, e2, List.drop_eq_getElem_cons hk, List.map_cons]
    simp only [if_pos h0]
  have hy := hO _ (List.getElem_mem hk)
  refine ⟨fun hj => ⟨by omega, by omega, ⟨?_, by rw [joinR_dims hj]; exact hy.dims⟩, by rw [hins, if_pos hj], by omega⟩, fun hj => by rw [hins, if_neg hj]⟩
  rcases joinR_okR hy.ok hx.ok h0 with ⟨_, g, _⟩ | g
  · exact g
  · omega
theorem RefSt.next {w W : World} {Z : List RZ} {q dq i c c' k r : Nat} {B B' : Option Addr} {O : List RZ} {z : RZ} (h : RefSt w Z q dq i B c O W) (hi : i < Z.length) (hp : Put q dq O Z[i].2 k r z.2) {W' : World} (hr : RowsC W' B' (O.take k ++ z :: O.drop r)) (hl : (O.take k ++ z :: O.drop r).length ≤ c') (hn : B' = none → c' = 0) (hb : Below w.heap.size w W') :
    RefSt w Z q dq (i + 1) B' c' (O.take k ++ z :: O.drop r) W' := by
  refine ⟨hr, hl, hn, ?_, fun y hy => ?_, ?_, hb⟩
  · have h1 := h.len
    have h2 := hp.kl
    have h3 := hp.rl
    have h4 := hp.rk
    simp; omega
  · rcases List.mem_append.1 hy with hy | hy
    · exact h.ok y (List.mem_of_mem_take hy)
    · rcases List.mem_cons.1 hy with rfl | hy
      · exact hp.ok
      · exact h.ok y (List.mem_of_mem_drop hy)
  · rw [h.fold, List.drop_eq_getElem_cons (by simpa using hi), refF]
    simp only [List.getElem_map]
    rw [hp.ins]
    simp
theorem RefSt.bad {w W : World} {Z : List RZ} {q dq i c : Nat} {B : Option Addr} {O : List RZ} {x : Int} (h : RefSt w Z q dq i B c O W) (hi : i < Z.length) (hx : x ≠ 0) (hp : insK (O.map Prod.snd) Z[i].2 = ([], x)) : refF [] (Z.map Prod.snd) = ([], x) := by
  rw [h.fold, List.drop_eq_getElem_cons (by simpa using hi), refF]
  simp only [List.getElem_map]
  rw [hp, if_neg hx]
theorem RefSt.fin {w W : World} {Z : List RZ} {q dq c : Nat} {B : Option Addr} {O : List RZ} (h : RefSt w Z q dq Z.length B c O W) : refF [] (Z.map Prod.snd) = (O.map Prod.snd, 0) := by
  rw [h.fold, List.drop_eq_nil_of_le (by simp)]; rfl
theorem store_box {W : World} {h B : Nat} {x0 x1 x2 x3 : Value} {z : RZ} (hb : Bx4 W h x0 x1 x2 x3) (ho : Owned B W z) (h1 : (Value.slice z.1.D z.1.n z.1.c).ownBlock ≠ some h) (h2 : (Value.slice z.1.G z.1.gn z.1.gc).ownBlock ≠ some h) :
    Bx4 ((((W.setCell ⟨h, 0, none⟩ (.int .i64 z.2.t)).setCell ⟨h, 1, none⟩ (.slice z.1.D z.1.n z.1.c)).setCell ⟨h, 2, none⟩ (.int .i64 z.2.count)).setCell ⟨h, 3, none⟩ (.slice z.1.G z.1.gn z.1.gc)) h (.int .i64 z.2.t) (.slice z.1.D z.1.n z.1.c) (.int .i64 z.2.count) (.slice z.1.G z.1.gn z.1.gc) ∧
    Owned B ((((W.setCell ⟨h, 0, none⟩ (.int .i64 z.2.t)).setCell ⟨h, 1, none⟩ (.slice z.1.D z.1.n z.1.c)).setCell ⟨h, 2, none⟩ (.int .i64 z.2.count)).setCell ⟨h, 3, none⟩ (.slice z.1.G z.1.gn z.1.gc)) z :=
  ⟨hb.all _ _ _ _, own_set' (own_set' (own_set' (own_set' ho.d h1) h1) h1) h1, own_set' (own_set' (own_set' (own_set' ho.g h2) h2) h2) h2, ho.sd, ho.sg⟩
theorem cellsR_one (z : RZ) : cellsR [z] = encR z := by simp [cellsR]
set_option maxRecDepth 100000 in
set_option maxHeartbeats 16000000 in
theorem reffold_any (A : Option Addr) (n c q dq : Nat) (Z : List RZ) (w : World) (hA : RowsC w A Z) (hn : n = Z.length) (hn2 : n ≤ 1000000) (hq : ∀ z ∈ Z, RowQ q dq z.2) :
    Calls Tryz.prog 49 #[.slice A n c] w (RefPost w Z) := by
  have HA := Lib.hid hA
  have HN := Lib.hid hn
  have HQ := Lib.hid hq
  clear hA hn hq
  go_enter Tryz.func49, Tryz.ntmps49
  go_wp2_with fail
  go_loopw [4, 5] (fun v4 v5 wr => ∃ (i : Nat) (B : Option Addr) (cO : Nat) (O : List RZ), v4 = .slice B O.length cO ∧ v5 = .int .i64 i ∧ i ≤ n ∧ Hid (RefSt w Z q dq i B cO O wr)) (fun _ v5 _ => n - (intOf v5).toNat)
  case atStart => exact ⟨0, none, 0, [], rfl, rfl, Nat.zero_le _, Lib.hid (show RefSt w Z q dq 0 none 0 [] w from ⟨⟨.inl rfl, (fun z hz => by cases hz)⟩, Nat.le_refl _, (fun _ => rfl), Nat.le_refl _, (fun y hy => by cases hy), (by rw [List.drop_zero]; rfl), Below.refl _ _⟩)⟩
  case round =>
    obtain ⟨i, B, cO, O, rfl, rfl, hin, HST⟩ := hrel
    obtain ⟨wo, rfl⟩ : ∃ wo : World, wo = wr := ⟨_, rfl⟩
    by_cases hlt : i < n
    case neg =>
      have hki : ¬ ((i : Int) < (n : Int)) := by omega
      have hiZ : i = Z.length := by have := HN.out; omega
      have HF := Lib.hid (show refF [] (Z.map Prod.snd) = (O.map Prod.snd, 0) from (show RefSt w Z q dq Z.length B cO O wo by rw [← hiZ]; exact HST.out).fin)
      clear hiZ hlt
      go_wp2_with fail
      go_ret2
      exact ⟨_, O, _, 0, rfl, HF.out, HST.out.rows, ⟨HST.out.le, HST.out.nil⟩, HST.out.below⟩
    case pos =>
    have hki : (i : Int) < (n : Int) := by omega
    have hi0 : (0 : Int) ≤ (i : Int) := by omega
    have hiZ : i < Z.length := by have := HN.out; omega
    obtain ⟨x, hx⟩ : ∃ x, x = Z[i] := ⟨_, rfl⟩
    have HXZ := Lib.hid hx
    have HXQ := Lib.hid (show RowQ q dq x.2 by rw [hx]; exact HQ.out _ (List.getElem_mem hiZ))
    have HXG := Lib.hid (show Good wo x by rw [hx]; exact (HA.out.good _ (List.getElem_mem hiZ)).keep HST.out.below)
    obtain ⟨bA, oA, hAe, x0, x1, x2, x3⟩ := row4 (HA.out.row.keep (Nat.le_refl _) HST.out.below) hiZ
    subst hAe
    rw [← hx] at x0 x1 x2 x3
    clear hx
    obtain ⟨⟨D1, n1, c1, G1, gn1, gc1⟩, ⟨t1, L1, u1, X1⟩⟩ := x
    simp only at x0 x1 x2 x3
    have HX0 := Lib.hid (And.intro x0 (And.intro x1 (And.intro x2 x3)))
    clear x0 x1 x2 x3
    obtain ⟨len, hlen⟩ : ∃ len, len = O.length := ⟨_, rfl⟩
    have HLEN := Lib.hid hlen
    have hlen9 : len ≤ 1000000 := by have := HST.out.len; omega
    rw [← hlen]
    clear hlen
    go_wp2_with fail
    go_loopw [6, 7] (fun v6 v7 wr => ∃ (k : Nat) (p : Bool), v6 = .int .i64 k ∧ v7 = .bool p ∧ k ≤ len ∧ Hid (Plc O ⟨t1, L1, u1, X1⟩ k p) ∧ Hid (Below wo.heap.size wo wr)) (fun v6 v7 _ => 2 * (len - (intOf v6).toNat) + (match v7 with | .bool true => 1 | _ => 0))
    case atStart => exact ⟨0, true, rfl, rfl, Nat.zero_le _, Lib.hid ⟨Nat.zero_le _, fun j h hj => absurd hj (by omega), fun h => by cases h⟩, Lib.hid (Below.refl _ _)⟩
    case round =>
      obtain ⟨k, p, rfl, rfl, hkl, HPL, HBW⟩ := hrel
      obtain ⟨g, hg⟩ : ∃ g : Bool, g = (decide (k < len) && p) := ⟨_, rfl⟩
      have HG := Lib.hid hg
      clear hg
      go_upto_region 7 with fail
      go_cut [26] (fun s26 wx => s26 = .bool g ∧ wr = wx)
      case first =>
        have e := HG.out
        by_cases hk : k < len
        · have hkz : (k : Int) < (len : Int) := by omega
          rw [decide_eq_true hk, Bool.true_and] at e
          clear hk
          go_wp2_with fail
          go_meet
          case rel => exact ⟨by rw [e], rfl⟩
        · have hkz : ¬ (k : Int) < (len : Int) := by omega
          rw [decide_eq_false hk, Bool.false_and] at e
          clear hk
          go_wp2_with fail
          go_meet
          case rel => exact ⟨by rw [e], rfl⟩
      case rest =>
      obtain ⟨rfl, rfl⟩ := hcut
      obtain ⟨x0, x1, x2, x3⟩ := HX0.out
      have x0 := cell_on HBW.out x0
      have x1 := cell_on HBW.out x1
      have x2 := cell_on HBW.out x2
      have x3 := cell_on HBW.out x3
      cases g with
      | true => as_aux_lemma =>
        --[
        have hkp : k < len ∧ p = true := by have := HG.out; simpa using this.symm
        obtain ⟨hk, rfl⟩ := hkp
        have hkz : (k : Int) < (len : Int) := by omega
        have hk0 : (0 : Int) ≤ (k : Int) := by omega
        have hkO : k < O.length := by have := HLEN.out; omega
        obtain ⟨y, hy⟩ : ∃ y, y = O[k] := ⟨_, rfl⟩
        have HY := Lib.hid hy
        have HYQ := Lib.hid (show RowQ q dq y.2 by rw [hy]; exact HST.out.ok _ (List.getElem_mem hkO))
        have HYG := Lib.hid (show Good wr y by rw [hy]; exact (HST.out.rows.good _ (List.getElem_mem hkO)).keep HBW.out)
        obtain ⟨bB, oB, hBe, p0, p1, p2, p3⟩ := row4 (HST.out.rows.row.keep (Nat.le_refl _) HBW.out) hkO
        subst hBe
        rw [← hy] at p0 p1 p2 p3
        clear hy
        obtain ⟨⟨D2, n2, c2, G2, gn2, gc2⟩, ⟨t2, L2, u2, X2⟩⟩ := y
        simp only at p0 p1 p2 p3
        have HXG2 := Lib.hid (HXG.out.keep HBW.out)
        obtain ⟨r, hr⟩ : ∃ r, r = decide (cmpV ⟨t2, L2, u2, X2⟩ ⟨t1, L1, u1, X1⟩ < 0) := ⟨_, rfl⟩
        have HR := Lib.hid hr
        have HLS := Lib.hid (show lessK t2 t1 L2 L1 = r by
          have e1 := HXQ.out.dims
          have e2 := HYQ.out.dims
          rw [hr]
          exact lessK_cmpK t2 t1 L2 L1 (e2.trans e1.symm))
        clear hr hk
        go_wp2_with fail
        refine wp_region_held_drew (S := fun w' => Below wr.heap.size wr w') (by kernel_rfl) (below_drewN (Below.refl _ _) 1) ?_
        intro hHeld
        refine take_want (i := 0) (v := ?v0m1) rfl (by kernel_rfl) (by kernel_rfl) (by kernel_rfl) (fun _ _ _ h => h) (by rfl) ?y0m1 (by assumption) ?r0m1
        case y0m1 => (intro w hSw; go_simp; all_goals with_reducible rfl)
        (try simp only [Act.put, List.setIfInBounds_toArray, List.set_cons_zero, List.set_cons_succ])
        refine take_want (i := 1) (v := ?v1m2) rfl (by kernel_rfl) (by kernel_rfl) (by kernel_rfl) (fun _ _ _ h => h) (by rfl) ?y1m2 (by assumption) ?r1m2
        case y1m2 => (intro w hSw; go_simp; all_goals with_reducible rfl)
        (try simp only [Act.put, List.setIfInBounds_toArray, List.set_cons_zero, List.set_cons_succ])
        refine take_want (i := 2) (v := ?v2m3) rfl (by kernel_rfl) (by kernel_rfl) (by kernel_rfl) (fun _ _ _ h => h) (by rfl) ?y2m3 (by assumption) ?r2m3
        case y2m3 => (intro w hSw; go_simp; all_goals with_reducible rfl)
        (try simp only [Act.put, List.setIfInBounds_toArray, List.set_cons_zero, List.set_cons_succ])
        refine take_want (i := 3) (v := ?v3m4) rfl (by kernel_rfl) (by kernel_rfl) (by kernel_rfl) (fun _ _ _ h => h) (by rfl) ?y3m4 (by assumption) ?r3m4
        case y3m4 => (intro w hSw; have m0 := cell_on hSw p0; have m1 := cell_on hSw p1; have m2 := cell_on hSw p2; have m3 := cell_on hSw p3; go_simp; all_goals with_reducible rfl)
        (try simp only [Act.put, List.setIfInBounds_toArray, List.set_cons_zero, List.set_cons_succ])
        refine take_want (i := 4) (v := ?v4m5) rfl (by kernel_rfl) (by kernel_rfl) (by kernel_rfl) (fun _ _ _ h => h) (by rfl) ?y4m5 (by assumption) ?r4m5
        case y4m5 => (intro w hSw; go_simp; all_goals with_reducible rfl)
        (try simp only [Act.put, List.setIfInBounds_toArray, List.set_cons_zero, List.set_cons_succ])
        refine take_want (i := 5) (v := ?v5m6) rfl (by kernel_rfl) (by kernel_rfl) (by kernel_rfl) (fun _ _ _ h => h) (by rfl) ?y5m6 (by assumption) ?r5m6
        case y5m6 => (intro w hSw; go_simp; all_goals with_reducible rfl)
        (try simp only [Act.put, List.setIfInBounds_toArray, List.set_cons_zero, List.set_cons_succ])
        refine take_want (i := 6) (v := ?v6m7) rfl (by kernel_rfl) (by kernel_rfl) (by kernel_rfl) (fun _ _ _ h => h) (by rfl) ?y6m7 (by assumption) ?r6m7
        case y6m7 => (intro w hSw; go_simp; all_goals with_reducible rfl)
        (try simp only [Act.put, List.setIfInBounds_toArray, List.set_cons_zero, List.set_cons_succ])
        refine take_want (i := 7) (v := ?v7m8) rfl (by kernel_rfl) (by kernel_rfl) (by kernel_rfl) (fun _ _ _ h => h) (by rfl) ?y7m8 (by assumption) ?r7m8
        case y7m8 => (intro w hSw; have m0 := cell_on hSw x0; have m1 := cell_on hSw x1; have m2 := cell_on hSw x2; have m3 := cell_on hSw x3; go_simp; all_goals with_reducible rfl)
        (try simp only [Act.put, List.setIfInBounds_toArray, List.set_cons_zero, List.set_cons_succ])
        refine wpAnyH_ready (rs := [8]) (by kernel_rfl) (by simp) ?_
        refine AllReadyH.cons rfl (fun K hK => ?_) AllReadyH.nil
        go_simp
        (go_at_call 83; refine (less_any t2 t1 u2 u1 D2 D1 G2 G1 n2 c2 n1 c1 gn2 gc2 gn1 gc1 L2 L1 _ (HYG.out.rd.keep (Nat.le_refl _) hHeld) (HXG2.out.rd.keep (Nat.le_refl _) hHeld) HYG.out.nd HXG2.out.nd (by have h := HYG.out.sd; simp only at h; omega) (by have h := HXG2.out.sd; simp only at h; omega)).mono ?_; rw [HLS.out]; rintro e w7 ⟨rfl, hb⟩)
        refine hK.out _ _ (bthen hHeld hb) (fun hHeld => ?_)
        clear hK K
        (try simp only [Act.put, List.setIfInBounds_toArray, List.set_cons_zero, List.set_cons_succ])
        refine take_want (i := 9) (v := ?v9m9) rfl (by kernel_rfl) (by kernel_rfl) (by kernel_rfl) (fun _ _ _ h => h) (by rfl) ?y9m9 (by assumption) ?r9m9
        case y9m9 => (intro w hSw; go_simp; all_goals with_reducible rfl)
        (try simp only [Act.put, List.setIfInBounds_toArray, List.set_cons_zero, List.set_cons_succ])
        refine wpAnyH_done (by kernel_rfl) ?_ _
        have HBB := Lib.hid (HBW.out.trans (hHeld.mono HBW.out.size))
        cases r with
        | true =>
          have HP2 := Lib.hid (show Plc O ⟨t1, L1, u1, X1⟩ (k + 1) true from ⟨by omega, fun j h hj => by
            rcases Nat.lt_or_eq_of_le (Nat.le_of_lt_succ hj) with h1 | rfl
            · exact HPL.out.lo j h h1
            · rw [← HY.out]; exact of_decide_eq_true HR.out.symm, fun h => by cases h⟩)
          go_wp2_with fail
          go_roundw
          case rel => exact ⟨k + 1, true, by go_num, rfl, by omega, HP2, HBB⟩
          case measure => simp [intOf]; omega
        | false =>
          have HP2 := Lib.hid (show Plc O ⟨t1, L1, u1, X1⟩ k false from ⟨HPL.out.kl, HPL.out.lo, fun _ => ⟨hkO, by rw [← HY.out]; exact of_decide_eq_false HR.out.symm⟩⟩)
          go_wp2_with fail
          go_roundw
          case rel => exact ⟨k, false, rfl, rfl, hkl, HP2, HBB⟩
          case measure => simp [intOf]
        --]
      | false =>
        have HE := Lib.hid (show k < O.length → p = false from fun h => by
          have e := HG.out
          have e2 := HLEN.out
          rw [decide_eq_true (show k < len by omega), Bool.true_and] at e
          exact e.symm)
        clear HG
        go_upto_region 13 with fail
        obtain ⟨W8, hW8⟩ : ∃ W8, W8 = wr.alloc (.cells #[.int .i64 t1, .slice D1 n1 c1, .int .i64 u1, .slice G1 gn1 gc1] 59) := ⟨_, rfl⟩
        have HB8 := Lib.hid (show Below wo.heap.size wo W8 by rw [hW8]; exact bpush HBW.out _)
        have HBX8 := Lib.hid (show Bx4 W8 wr.heap.size (.int .i64 t1) (.slice D1 n1 c1) (.int .i64 u1) (.slice G1 gn1 gc1) by rw [hW8]; exact Bx4.made)
        have hg8 : wr.heap.size < W8.heap.size := by rw [hW8]; simp
        rw [← hW8]
        clear hW8 x0 x1 x2 x3
        have hg9 : wo.heap.size ≤ wr.heap.size := HBW.out.size
        obtain ⟨g8, hg8e⟩ : ∃ g8, g8 = wr.heap.size := ⟨_, rfl⟩
        rw [← hg8e] at HBX8 hg8 hg9 ⊢
        clear hg8e
        obtain ⟨one, hone⟩ := bool_of (∃ h : k < O.length, cmpV O[k].2 ⟨t1, L1, u1, X1⟩ = 0)
        have HONE := Lib.hid hone
        clear hone
        go_cut [10] (fun s10 wx => s10 = .bool one ∧ Below W8.heap.size W8 wx)
        case first => as_aux_lemma =>
          --[
          by_cases hk : k < len
          · have hkz : (k : Int) < (len : Int) := by omega
            have hkO : k < O.length := by have := HLEN.out; omega
            have hk0 : (0 : Int) ≤ (k : Int) := by omega
            obtain ⟨y, hy⟩ : ∃ y, y = O[k] := ⟨_, rfl⟩
            have HY := Lib.hid hy
            have HYQ := Lib.hid (show RowQ q dq y.2 by rw [hy]; exact HST.out.ok _ (List.getElem_mem hkO))
            have HYG := Lib.hid (show Good W8 y by rw [hy]; exact (HST.out.rows.good _ (List.getElem_mem hkO)).keep HB8.out)
            obtain ⟨bB, oB, hBe, p0, p1, p2, p3⟩ := row4 (HST.out.rows.row.keep (Nat.le_refl _) HB8.out) hkO
            subst hBe
            rw [← hy] at p0 p1 p2 p3
            clear hy
            obtain ⟨⟨D2, n2, c2, G2, gn2, gc2⟩, ⟨t2, L2, u2, X2⟩⟩ := y
            simp only at p0 p1 p2 p3
            have HXG2 := Lib.hid (HXG.out.keep HB8.out)
            obtain ⟨x0, x1, x2, x3⟩ := HX0.out
            have x0 := cell_on HB8.out x0
            have x1 := cell_on HB8.out x1
            have x2 := cell_on HB8.out x2
            have x3 := cell_on HB8.out x3
            have HR := Lib.hid (show one = true ↔ L2 = L1 ∧ t2 = t1 by
              rw [HONE.out]
              constructor
              · rintro ⟨_, h⟩; rw [← HY.out] at h; exact cmpV_zero.1 h
              · intro h; exact ⟨hkO, by rw [← HY.out]; exact cmpV_zero.2 h⟩)
            clear hk
            refine wp_region_held_drew (S := fun w' => Below W8.heap.size W8 w') (by kernel_rfl) (below_drewN (Below.refl _ _) 1) ?_
            intro hHeld
            refine take_want (i := 0) (v := ?v0m10) rfl (by kernel_rfl) (by kernel_rfl) (by kernel_rfl) (fun _ _ _ h => h) (by rfl) ?y0m10 (by assumption) ?r0m10
            case y0m10 => (intro w hSw; go_simp; all_goals with_reducible rfl)
            (try simp only [Act.put, List.setIfInBounds_toArray, List.set_cons_zero, List.set_cons_succ])
            refine take_want (i := 1) (v := ?v1m11) rfl (by kernel_rfl) (by kernel_rfl) (by kernel_rfl) (fun _ _ _ h => h) (by rfl) ?y1m11 (by assumption) ?r1m11
            case y1m11 => (intro w hSw; go_simp; all_goals with_reducible rfl)
            (try simp only [Act.put, List.setIfInBounds_toArray, List.set_cons_zero, List.set_cons_succ])
            refine take_want (i := 2) (v := ?v2m12) rfl (by kernel_rfl) (by kernel_rfl) (by kernel_rfl) (fun _ _ _ h => h) (by rfl) ?y2m12 (by assumption) ?r2m12
            case y2m12 => (intro w hSw; go_simp; all_goals with_reducible rfl)
            (try simp only [Act.put, List.setIfInBounds_toArray, List.set_cons_zero, List.set_cons_succ])
            refine take_want (i := 3) (v := (.bool true)) rfl (by kernel_rfl) (by kernel_rfl) (by kernel_rfl) (fun _ _ _ h => h) (by rfl) ?y3m13 (by assumption) ?r3m13
            case y3m13 => (intro w hSw; go_simp; (try simp [hkz]); (try omega))
            (try simp only [Act.put, List.setIfInBounds_toArray, List.set_cons_zero, List.set_cons_succ])
            refine take_want (i := 4) (v := ?v4m14) rfl (by kernel_rfl) (by kernel_rfl) (by kernel_rfl) (fun _ _ _ h => h) (by rfl) ?y4m14 (by assumption) ?r4m14
            case y4m14 => (intro w hSw; go_simp; all_goals with_reducible rfl)
            (try simp only [Act.put, List.setIfInBounds_toArray, List.set_cons_zero, List.set_cons_succ])
            refine take_want (i := 5) (v := ?v5m15) rfl (by kernel_rfl) (by kernel_rfl) (by kernel_rfl) (fun _ _ _ h => h) (by rfl) ?y5m15 (by assumption) ?r5m15
            case y5m15 => (intro w hSw; go_simp; all_goals with_reducible rfl)
            (try simp only [Act.put, List.setIfInBounds_toArray, List.set_cons_zero, List.set_cons_succ])
            refine take_want (i := 6) (v := ?v6m16) rfl (by kernel_rfl) (by kernel_rfl) (by kernel_rfl) (fun _ _ _ h => h) (by rfl) ?y6m16 (by assumption) ?r6m16
            case y6m16 => (intro w hSw; go_simp; all_goals with_reducible rfl)
            (try simp only [Act.put, List.setIfInBounds_toArray, List.set_cons_zero, List.set_cons_succ])
            refine take_want (i := 7) (v := ?v7m17) rfl (by kernel_rfl) (by kernel_rfl) (by kernel_rfl) (fun _ _ _ h => h) (by rfl) ?y7m17 (by assumption) ?r7m17
            case y7m17 => (intro w hSw; go_simp; all_goals with_reducible rfl)
            (try simp only [Act.put, List.setIfInBounds_toArray, List.set_cons_zero, List.set_cons_succ])
            refine take_want (i := 8) (v := ?v8m18) rfl (by kernel_rfl) (by kernel_rfl) (by kernel_rfl) (fun _ _ _ h => h) (by rfl) ?y8m18 (by assumption) ?r8m18
            case y8m18 => (intro w hSw; have m0 := cell_on hSw p0; have m1 := cell_on hSw p1; have m2 := cell_on hSw p2; have m3 := cell_on hSw p3; go_simp; all_goals with_reducible rfl)
            (try simp only [Act.put, List.setIfInBounds_toArray, List.set_cons_zero, List.set_cons_succ])
            refine take_want (i := 9) (v := ?v9m19) rfl (by kernel_rfl) (by kernel_rfl) (by kernel_rfl) (fun _ _ _ h => h) (by rfl) ?y9m19 (by assumption) ?r9m19
            case y9m19 => (intro w hSw; go_simp; all_goals with_reducible rfl)
            (try simp only [Act.put, List.setIfInBounds_toArray, List.set_cons_zero, List.set_cons_succ])
            refine take_want (i := 10) (v := ?v10m20) rfl (by kernel_rfl) (by kernel_rfl) (by kernel_rfl) (fun _ _ _ h => h) (by rfl) ?y10m20 (by assumption) ?r10m20
            case y10m20 => (intro w hSw; go_simp; all_goals with_reducible rfl)
            (try simp only [Act.put, List.setIfInBounds_toArray, List.set_cons_zero, List.set_cons_succ])
            refine take_want (i := 11) (v := ?v11m21) rfl (by kernel_rfl) (by kernel_rfl) (by kernel_rfl) (fun _ _ _ h => h) (by rfl) ?y11m21 (by assumption) ?r11m21
            case y11m21 => (intro w hSw; go_simp; all_goals with_reducible rfl)
            (try simp only [Act.put, List.setIfInBounds_toArray, List.set_cons_zero, List.set_cons_succ])
            refine take_want (i := 12) (v := ?v12m22) rfl (by kernel_rfl) (by kernel_rfl) (by kernel_rfl) (fun _ _ _ h => h) (by rfl) ?y12m22 (by assumption) ?r12m22
            case y12m22 => (intro w hSw; have m0 := cell_on hSw x0; have m1 := cell_on hSw x1; have m2 := cell_on hSw x2; have m3 := cell_on hSw x3; go_simp; all_goals with_reducible rfl)
            (try simp only [Act.put, List.setIfInBounds_toArray, List.set_cons_zero, List.set_cons_succ])
            refine wpAnyH_ready (rs := [13]) (by kernel_rfl) (by simp) ?_
            refine AllReadyH.cons rfl (fun K hK => ?_) AllReadyH.nil
            go_simp
            (go_at_call 84; refine (onekey_any t2 t1 u2 u1 D2 D1 G2 G1 n2 c2 n1 c1 gn2 gc2 gn1 gc1 L2 L1 _ (HYG.out.rd.keep (Nat.le_refl _) hHeld) (HXG2.out.rd.keep (Nat.le_refl _) hHeld) HYG.out.nd HXG2.out.nd (by have h := HYG.out.sd; simp only at h; omega) (by have h := HXG2.out.sd; simp only at h; omega) one HR.out).mono ?_; rintro e w7 ⟨rfl, hb⟩)
            refine hK.out _ _ (bthen hHeld hb) (fun hHeld => ?_)
            clear hK K
            (try simp only [Act.put, List.setIfInBounds_toArray, List.set_cons_zero, List.set_cons_succ])
            refine take_want (i := 14) (v := ?v14m23) rfl (by kernel_rfl) (by kernel_rfl) (by kernel_rfl) (fun _ _ _ h => h) (by rfl) ?y14m23 (by assumption) ?r14m23
            case y14m23 => (intro w hSw; go_simp; all_goals with_reducible rfl)
            (try simp only [Act.put, List.setIfInBounds_toArray, List.set_cons_zero, List.set_cons_succ])
            refine take_want (i := 15) (v := ?v15m24) rfl (by kernel_rfl) (by kernel_rfl) (by kernel_rfl) (fun _ _ _ h => h) (by rfl) ?y15m24 (by assumption) ?r15m24
            case y15m24 => (intro w hSw; go_simp; all_goals with_reducible rfl)
            (try simp only [Act.put, List.setIfInBounds_toArray, List.set_cons_zero, List.set_cons_succ])
            refine wpAnyH_done (by kernel_rfl) ?_ _
            go_wp2_with fail
            go_meet
            case rel => exact ⟨rfl, hHeld⟩
          · have hkz : ¬ (k : Int) < (len : Int) := by omega
            obtain rfl : one = false := by
              cases one; rfl
              obtain ⟨h, _⟩ := HONE.out.1 rfl
              exact absurd h (by have := HLEN.out; omega)
            clear hk
            refine wp_region_held_drew (S := fun w' => Below W8.heap.size W8 w') (by kernel_rfl) (below_drewN (Below.refl _ _) 1) ?_
            intro hHeld
            refine take_want (i := 0) (v := ?v0m25) rfl (by kernel_rfl) (by kernel_rfl) (by kernel_rfl) (fun _ _ _ h => h) (by rfl) ?y0m25 (by assumption) ?r0m25
            case y0m25 => (intro w hSw; go_simp; all_goals with_reducible rfl)
            (try simp only [Act.put, List.setIfInBounds_toArray, List.set_cons_zero, List.set_cons_succ])
            refine take_want (i := 1) (v := ?v1m26) rfl (by kernel_rfl) (by kernel_rfl) (by kernel_rfl) (fun _ _ _ h => h) (by rfl) ?y1m26 (by assumption) ?r1m26
            case y1m26 => (intro w hSw; go_simp; all_goals with_reducible rfl)
            (try simp only [Act.put, List.setIfInBounds_toArray, List.set_cons_zero, List.set_cons_succ])
            refine take_want (i := 2) (v := ?v2m27) rfl (by kernel_rfl) (by kernel_rfl) (by kernel_rfl) (fun _ _ _ h => h) (by rfl) ?y2m27 (by assumption) ?r2m27
            case y2m27 => (intro w hSw; go_simp; all_goals with_reducible rfl)
            (try simp only [Act.put, List.setIfInBounds_toArray, List.set_cons_zero, List.set_cons_succ])
            refine take_want (i := 3) (v := (.bool false)) rfl (by kernel_rfl) (by kernel_rfl) (by kernel_rfl) (fun _ _ _ h => h) (by rfl) ?y3m28 (by assumption) ?r3m28
            case y3m28 => (intro w hSw; go_simp; (try simp [hkz]); (try omega))
            (try simp only [Act.put, List.setIfInBounds_toArray, List.set_cons_zero, List.set_cons_succ])
            refine take_want (i := 4) (v := ?v4m29) rfl (by kernel_rfl) (by kernel_rfl) (by kernel_rfl) (fun _ _ _ h => h) (by rfl) ?y4m29 (by assumption) ?r4m29
            case y4m29 => (intro w hSw; go_simp; all_goals with_reducible rfl)
            (try simp only [Act.put, List.setIfInBounds_toArray, List.set_cons_zero, List.set_cons_succ])
            refine take_skip (i := 5) rfl (by kernel_rfl) (by kernel_rfl) (by kernel_rfl) (fun _ _ _ h => h) (by rfl) (by assumption) ?_
            (try simp only [Act.put, List.setIfInBounds_toArray, List.set_cons_zero, List.set_cons_succ])
            refine take_skip (i := 6) rfl (by kernel_rfl) (by kernel_rfl) (by kernel_rfl) (fun _ _ _ h => h) (by rfl) (by assumption) ?_
            (try simp only [Act.put, List.setIfInBounds_toArray, List.set_cons_zero, List.set_cons_succ])
            refine take_skip (i := 7) rfl (by kernel_rfl) (by kernel_rfl) (by kernel_rfl) (fun _ _ _ h => h) (by rfl) (by assumption) ?_
            (try simp only [Act.put, List.setIfInBounds_toArray, List.set_cons_zero, List.set_cons_succ])
            refine take_skip (i := 8) rfl (by kernel_rfl) (by kernel_rfl) (by kernel_rfl) (fun _ _ _ h => h) (by rfl) (by assumption) ?_
            (try simp only [Act.put, List.setIfInBounds_toArray, List.set_cons_zero, List.set_cons_succ])
            refine take_skip (i := 9) rfl (by kernel_rfl) (by kernel_rfl) (by kernel_rfl) (fun _ _ _ h => h) (by rfl) (by assumption) ?_
            (try simp only [Act.put, List.setIfInBounds_toArray, List.set_cons_zero, List.set_cons_succ])
            refine take_skip (i := 10) rfl (by kernel_rfl) (by kernel_rfl) (by kernel_rfl) (fun _ _ _ h => h) (by rfl) (by assumption) ?_
            (try simp only [Act.put, List.setIfInBounds_toArray, List.set_cons_zero, List.set_cons_succ])
            refine take_skip (i := 11) rfl (by kernel_rfl) (by kernel_rfl) (by kernel_rfl) (fun _ _ _ h => h) (by rfl) (by assumption) ?_
            (try simp only [Act.put, List.setIfInBounds_toArray, List.set_cons_zero, List.set_cons_succ])
            refine take_skip (i := 12) rfl (by kernel_rfl) (by kernel_rfl) (by kernel_rfl) (fun _ _ _ h => h) (by rfl) (by assumption) ?_
            (try simp only [Act.put, List.setIfInBounds_toArray, List.set_cons_zero, List.set_cons_succ])
            refine take_skip (i := 13) rfl (by kernel_rfl) (by kernel_rfl) (by kernel_rfl) (fun _ _ _ h => h) (by rfl) (by assumption) ?_
            (try simp only [Act.put, List.setIfInBounds_toArray, List.set_cons_zero, List.set_cons_succ])
            refine take_want (i := 14) (v := ?v14m30) rfl (by kernel_rfl) (by kernel_rfl) (by kernel_rfl) (fun _ _ _ h => h) (by rfl) ?y14m30 (by assumption) ?r14m30
            case y14m30 => (intro w hSw; go_simp; all_goals with_reducible rfl)
            (try simp only [Act.put, List.setIfInBounds_toArray, List.set_cons_zero, List.set_cons_succ])
            refine take_want (i := 15) (v := ?v15m31) rfl (by kernel_rfl) (by kernel_rfl) (by kernel_rfl) (fun _ _ _ h => h) (by rfl) ?y15m31 (by assumption) ?r15m31
            case y15m31 => (intro w hSw; go_simp; all_goals with_reducible rfl)
            (try simp only [Act.put, List.setIfInBounds_toArray, List.set_cons_zero, List.set_cons_succ])
            refine wpAnyH_done (by kernel_rfl) ?_ _
            go_wp2_with fail
            go_meet
            case rel => exact ⟨rfl, hHeld⟩
          --]
        case rest =>
        obtain ⟨w13, rfl⟩ : ∃ w, w = wc := ⟨_, rfl⟩
        obtain ⟨rfl, hb13⟩ := hcut
        have HB13 := Lib.hid (bthen HB8.out hb13)
        have HBX := Lib.hid (HBX8.out.keep hb13)
        have hg13 : g8 < w13.heap.size := by have := hb13.size; omega
        clear hb13 HB8 HBX8 hg8
        go_upto_if 59 with fail
        go_cut [9] (fun s9 wx => ∃ (r : Nat) (z : RZ), s9 = .int .i64 r ∧ Hid (Bx4 wx g8 (.int .i64 z.2.t) (.slice z.1.D z.1.n z.1.c) (.int .i64 z.2.count) (.slice z.1.G z.1.gn z.1.gc)) ∧ Hid (Good wx z) ∧ Hid (Put q dq O ⟨t1, L1, u1, X1⟩ k r z.2) ∧ Hid (Below wo.heap.size wo wx))
        case first => as_aux_lemma =>
          --[
          cases one with
          | false =>
            have HP := Lib.hid (HPL.out.new HE.out HXQ.out (fun hk h0 => by have := HONE.out.2 ⟨hk, h0⟩; cases this))
            have HXG2 := Lib.hid (HXG.out.keep HB13.out)
            go_wp2_with fail
            go_meet
            case rel => exact ⟨k, (⟨D1, n1, c1, G1, gn1, gc1⟩, ⟨t1, L1, u1, X1⟩), rfl, HBX, HXG2, HP, HB13⟩
          | true =>
            obtain ⟨hk', h0⟩ := HONE.out.1 rfl
            have hk : k < len := by have := HLEN.out; omega
            have hkz : (k : Int) < (len : Int) := by omega
            have HP := Lib.hid (HPL.out.one HE.out HXQ.out HST.out.ok hk' h0)
            clear h0
            have hkO : k < O.length := by have := HLEN.out; omega
            have hk0 : (0 : Int) ≤ (k : Int) := by omega
            obtain ⟨y, hy⟩ : ∃ y, y = O[k] := ⟨_, rfl⟩
            have HY := Lib.hid hy
            have HYQ := Lib.hid (show RowQ q dq y.2 by rw [hy]; exact HST.out.ok _ (List.getElem_mem hkO))
            have HYG := Lib.hid (show Good w13 y by rw [hy]; exact (HST.out.rows.good _ (List.getElem_mem hkO)).keep HB13.out)
            obtain ⟨bB, oB, hBe, p0, p1, p2, p3⟩ := row4 (HST.out.rows.row.keep (Nat.le_refl _) HB13.out) hkO
            subst hBe
            rw [← hy] at p0 p1 p2 p3
            clear hy
            obtain ⟨⟨D2, n2, c2, G2, gn2, gc2⟩, ⟨t2, L2, u2, X2⟩⟩ := y
            simp only at p0 p1 p2 p3
            have HXG2 := Lib.hid (HXG.out.keep HB13.out)
            obtain ⟨x0, x1, x2, x3⟩ := HX0.out
            have x0 := cell_on HB13.out x0
            have x1 := cell_on HB13.out x1
            have x2 := cell_on HB13.out x2
            have x3 := cell_on HB13.out x3
            obtain ⟨⟨jr, je⟩, hj⟩ : ∃ j, j = joinR ⟨t2, L2, u2, X2⟩ ⟨t1, L1, u1, X1⟩ := ⟨_, rfl⟩
            have HJ := Lib.hid hj
            have HPQ := Lib.hid (show (je = 0 → Put q dq O ⟨t1, L1, u1, X1⟩ k (k + 1) jr) ∧ (je ≠ 0 → insK (O.map Prod.snd) ⟨t1, L1, u1, X1⟩ = ([], je)) by
              have h := HP.out
              rw [← HY.out] at h
              simp only at h
              rw [← hj] at h
              exact h)
            have HJC := Lib.hid (show ∀ W, Below w13.heap.size w13 W → Calls Tryz.prog 85 #[.agg #[.int .i64 t2, .slice D2 n2 c2, .int .i64 u2, .slice G2 gn2 gc2], .agg #[.int .i64 t1, .slice D1 n1 c1, .int .i64 u1, .slice G1 gn1 gc1]] W (JoinPost W (jr, je)) from fun W hW => by
              have e1 := HYQ.out.ok
              have e2 := HXQ.out.ok
              have h := refjoin_any (⟨D2, n2, c2, G2, gn2, gc2⟩, ⟨t2, L2, u2, X2⟩) (⟨D1, n1, c1, G1, gn1, gc1⟩, ⟨t1, L1, u1, X1⟩) W (HYG.out.keep hW) (HXG2.out.keep hW) ⟨e1.lo, e1.hi⟩ ⟨e2.lo, e2.hi⟩ (e1.len.trans e2.len.symm) e1.aggs e2.aggs
              rw [hj]
              exact h)
            clear hj HP hk
            go_upto_region 15 with fail
            go_cut [11, 12] (fun s11 s12 wx => ∃ (h : Nat) (z : RZ), s11 = .pointer (some ⟨h, 0, none⟩) ∧ s12 = .int .i64 je ∧ Hid (Bx4 wx h (.int .i64 z.2.t) (.slice z.1.D z.1.n z.1.c) (.int .i64 z.2.count) (.slice z.1.G z.1.gn z.1.gc)) ∧ Hid (z.2 = jr) ∧ Hid (Owned w13.heap.size wx z) ∧ Hid (w13.heap.size ≤ h) ∧ Hid (Below w13.heap.size w13 wx))
            case first =>
              refine wp_region_held_drew (S := fun w' => Below w13.heap.size w13 w') (by kernel_rfl) (below_drewN (Below.refl _ _) 1) ?_
              intro hHeld
              refine take_want (i := 0) (v := ?v0m32) rfl (by kernel_rfl) (by kernel_rfl) (by kernel_rfl) (fun _ _ _ h => h) (by rfl) ?y0m32 (by assumption) ?r0m32
              case y0m32 => (intro w hSw; go_simp; all_goals with_reducible rfl)
              (try simp only [Act.put, List.setIfInBounds_toArray, List.set_cons_zero, List.set_cons_succ])
              refine take_want (i := 1) (v := ?v1m33) rfl (by kernel_rfl) (by kernel_rfl) (by kernel_rfl) (fun _ _ _ h => h) (by rfl) ?y1m33 (by assumption) ?r1m33
              case y1m33 => (intro w hSw; go_simp; all_goals with_reducible rfl)
              (try simp only [Act.put, List.setIfInBounds_toArray, List.set_cons_zero, List.set_cons_succ])
              refine take_want (i := 2) (v := ?v2m34) rfl (by kernel_rfl) (by kernel_rfl) (by kernel_rfl) (fun _ _ _ h => h) (by rfl) ?y2m34 (by assumption) ?r2m34
              case y2m34 => (intro w hSw; go_simp; all_goals with_reducible rfl)
              (try simp only [Act.put, List.setIfInBounds_toArray, List.set_cons_zero, List.set_cons_succ])
              refine take_want (i := 3) (v := ?v3m35) rfl (by kernel_rfl) (by kernel_rfl) (by kernel_rfl) (fun _ _ _ h => h) (by rfl) ?y3m35 (by assumption) ?r3m35
              case y3m35 => (intro w hSw; have m0 := cell_on hSw p0; have m1 := cell_on hSw p1; have m2 := cell_on hSw p2; have m3 := cell_on hSw p3; go_simp; all_goals with_reducible rfl)
              (try simp only [Act.put, List.setIfInBounds_toArray, List.set_cons_zero, List.set_cons_succ])
              refine take_want (i := 4) (v := ?v4m36) rfl (by kernel_rfl) (by kernel_rfl) (by kernel_rfl) (fun _ _ _ h => h) (by rfl) ?y4m36 (by assumption) ?r4m36
              case y4m36 => (intro w hSw; go_simp; all_goals with_reducible rfl)
              (try simp only [Act.put, List.setIfInBounds_toArray, List.set_cons_zero, List.set_cons_succ])
              refine take_want (i := 5) (v := ?v5m37) rfl (by kernel_rfl) (by kernel_rfl) (by kernel_rfl) (fun _ _ _ h => h) (by rfl) ?y5m37 (by assumption) ?r5m37
              case y5m37 => (intro w hSw; go_simp; all_goals with_reducible rfl)
              (try simp only [Act.put, List.setIfInBounds_toArray, List.set_cons_zero, List.set_cons_succ])
              refine take_want (i := 6) (v := ?v6m38) rfl (by kernel_rfl) (by kernel_rfl) (by kernel_rfl) (fun _ _ _ h => h) (by rfl) ?y6m38 (by assumption) ?r6m38
              case y6m38 => (intro w hSw; go_simp; all_goals with_reducible rfl)
              (try simp only [Act.put, List.setIfInBounds_toArray, List.set_cons_zero, List.set_cons_succ])
              refine take_want (i := 7) (v := ?v7m39) rfl (by kernel_rfl) (by kernel_rfl) (by kernel_rfl) (fun _ _ _ h => h) (by rfl) ?y7m39 (by assumption) ?r7m39
              case y7m39 => (intro w hSw; have m0 := cell_on hSw x0; have m1 := cell_on hSw x1; have m2 := cell_on hSw x2; have m3 := cell_on hSw x3; go_simp; all_goals with_reducible rfl)
              (try simp only [Act.put, List.setIfInBounds_toArray, List.set_cons_zero, List.set_cons_succ])
              refine wpAnyH_ready (rs := [8, 12]) (by kernel_rfl) (by simp) ?_
              refine AllReadyH.cons rfl (fun K hK => ?_) (AllReadyH.cons rfl (fun K hK => ?_) AllReadyH.nil)
              · go_simp
                (go_at_call 85; refine (HJC.out _ hHeld).mono ?_; rintro e w8 ⟨z, rfl, hz, hoz, hb⟩)
                obtain ⟨⟨Dz, nz, cz, Gz, gnz, gcz⟩, ⟨tz, Lz, uz, Xz⟩⟩ := z
                refine hK.out _ _ (bthen hHeld hb) (fun hHeld => ?_)
                clear hK K
                (try simp only [Act.put, List.setIfInBounds_toArray, List.set_cons_zero, List.set_cons_succ])
                simp only [encR]
                refine take_want (i := 9) (v := ?v9m40) rfl (by kernel_rfl) (by kernel_rfl) (by kernel_rfl) (fun _ _ _ h => h) (by rfl) ?y9m40 (by assumption) ?r9m40
                case y9m40 => (intro w hSw; go_simp; all_goals with_reducible rfl)
                (try simp only [Act.put, List.setIfInBounds_toArray, List.set_cons_zero, List.set_cons_succ])
                refine take_want (i := 10) (v := ?v10m41) rfl (by kernel_rfl) (by kernel_rfl) (by kernel_rfl) (fun _ _ _ h => h) (by rfl) ?y10m41 (by assumption) ?r10m41
                case y10m41 => (intro w hSw; go_simp; all_goals with_reducible rfl)
                (try simp only [Act.put, List.setIfInBounds_toArray, List.set_cons_zero, List.set_cons_succ])
                refine take_want (i := 11) (v := ?v11m42) rfl (by kernel_rfl) (by kernel_rfl) (by kernel_rfl) (fun _ _ _ h => h) (by rfl) ?y11m42 (by assumption) ?r11m42
                case y11m42 => (intro w hSw; go_simp; all_goals with_reducible rfl)
                (try simp only [Act.put, List.setIfInBounds_toArray, List.set_cons_zero, List.set_cons_succ])
                refine wpAnyH_ready (rs := [12]) (by kernel_rfl) (by simp) ?_
                refine AllReadyH.cons rfl (fun K hK => ?_) AllReadyH.nil
                go_simp
                refine hK.out _ _ (bpush hHeld _) (fun hHeld => ?_)
                clear hK K
                (try simp only [Act.put, List.setIfInBounds_toArray, List.set_cons_zero, List.set_cons_succ])
                obtain ⟨w9, hw9⟩ : ∃ w9, w9 = w8.alloc (.cells #[.int .i64 0, .slice none 0 0, .int .i64 0, .slice none 0 0] 59) := ⟨_, rfl⟩
                have HBZ := Lib.hid (show Bx4 w9 w8.heap.size (.int .i64 0) (.slice none 0 0) (.int .i64 0) (.slice none 0 0) by rw [hw9]; exact Bx4.made)
                have hge0 : w13.heap.size ≤ w8.heap.size := by have := hb.size; simpa using this
                have HOZ := Lib.hid (store_box (z := (⟨Dz, nz, cz, Gz, gnz, gcz⟩, ⟨tz, Lz, uz, Xz⟩)) HBZ.out ((hoz.less (C := w13.heap.size) (by simp)).keep (by rw [hw9]; exact bpush (Below.refl _ _) _)) (own_fresh hoz.d) (own_fresh hoz.g))
                rw [← hw9] at hHeld ⊢
                clear hw9 hb hoz
                obtain ⟨e0, e1, e2, e3, ef⟩ := HBZ.out
                refine wpAnyH_ready (rs := [13]) (by kernel_rfl) (by simp) ?_
                refine AllReadyH.cons rfl (fun K hK => ?_) AllReadyH.nil
                go_simp
                have hBs := bset (bset (bset (bset hHeld (o := 0) hge0 (.int .i64 tz)) (o := 1) hge0 (.slice Dz nz cz)) (o := 2) hge0 (.int .i64 uz)) (o := 3) hge0 (.slice Gz gnz gcz)
                refine hK.out _ _ (by first | exact hBs | (simp at hBs ⊢; exact hBs)) (fun hHeld2 => ?_)
                clear hK K
                (try simp only [Act.put, List.setIfInBounds_toArray, List.set_cons_zero, List.set_cons_succ])
                refine take_want (i := 14) (v := ?v14m43) rfl (by kernel_rfl) (by kernel_rfl) (by kernel_rfl) (fun _ _ _ h => h) (by rfl) ?y14m43 (by assumption) ?r14m43
                case y14m43 => (intro w hSw; go_simp; all_goals with_reducible rfl)
                (try simp only [Act.put, List.setIfInBounds_toArray, List.set_cons_zero, List.set_cons_succ])
                refine wpAnyH_done (by kernel_rfl) ?_ _
                go_wp2_with fail
                go_meet
                exact ⟨w8.heap.size, (⟨Dz, nz, cz, Gz, gnz, gcz⟩, ⟨tz, Lz, uz, Xz⟩), rfl, rfl, Lib.hid HOZ.out.1, Lib.hid hz, Lib.hid HOZ.out.2, Lib.hid hge0, Lib.hid hHeld2⟩
              · go_simp
                refine hK.out _ _ (bpush hHeld _) (fun hHeld => ?_)
                clear hK K
                (try simp only [Act.put, List.setIfInBounds_toArray, List.set_cons_zero, List.set_cons_succ])
                obtain ⟨wA, hwA⟩ : ∃ wA, wA = (w13.alloc (.cells #[.int .i64 0, .slice none 0 0, .int .i64 0, .slice none 0 0] 59)).drew := ⟨_, rfl⟩
                have HBA := Lib.hid (show Bx4 wA w13.heap.size (.int .i64 0) (.slice none 0 0) (.int .i64 0) (.slice none 0 0) by rw [hwA]; exact (Bx4.made.keep (below_drewN (Below.refl _ _) 1)))
                have hsA : w13.heap.size < wA.heap.size := by rw [hwA]; show _ < (w13.alloc _).heap.size; simp
                rw [← hwA] at hHeld ⊢
                clear hwA
                refine wpAnyH_ready (rs := [8]) (by kernel_rfl) (by simp) ?_
                refine AllReadyH.cons rfl (fun K hK => ?_) AllReadyH.nil
                go_simp
                (go_at_call 85; refine (HJC.out _ hHeld).mono ?_; rintro e w8 ⟨z, rfl, hz, hoz, hb⟩)
                obtain ⟨⟨Dz, nz, cz, Gz, gnz, gcz⟩, ⟨tz, Lz, uz, Xz⟩⟩ := z
                refine hK.out _ _ (bthen hHeld hb) (fun hHeld => ?_)
                clear hK K
                (try simp only [Act.put, List.setIfInBounds_toArray, List.set_cons_zero, List.set_cons_succ])
                simp only [encR]
                have HBZ := Lib.hid (HBA.out.keep hb)
                have HOZ := Lib.hid (store_box (z := (⟨Dz, nz, cz, Gz, gnz, gcz⟩, ⟨tz, Lz, uz, Xz⟩)) HBZ.out (hoz.less (C := w13.heap.size) (by omega)) (own_apart hoz.d hsA) (own_apart hoz.g hsA))
                have hge0 : w13.heap.size ≤ w13.heap.size := Nat.le_refl _
                clear hb hoz
                refine take_want (i := 9) (v := ?v9m44) rfl (by kernel_rfl) (by kernel_rfl) (by kernel_rfl) (fun _ _ _ h => h) (by rfl) ?y9m44 (by assumption) ?r9m44
                case y9m44 => (intro w hSw; go_simp; all_goals with_reducible rfl)
                (try simp only [Act.put, List.setIfInBounds_toArray, List.set_cons_zero, List.set_cons_succ])
                refine take_want (i := 10) (v := ?v10m45) rfl (by kernel_rfl) (by kernel_rfl) (by kernel_rfl) (fun _ _ _ h => h) (by rfl) ?y10m45 (by assumption) ?r10m45
                case y10m45 => (intro w hSw; go_simp; all_goals with_reducible rfl)
                (try simp only [Act.put, List.setIfInBounds_toArray, List.set_cons_zero, List.set_cons_succ])
                refine take_want (i := 11) (v := ?v11m46) rfl (by kernel_rfl) (by kernel_rfl) (by kernel_rfl) (fun _ _ _ h => h) (by rfl) ?y11m46 (by assumption) ?r11m46
                case y11m46 => (intro w hSw; go_simp; all_goals with_reducible rfl)
                (try simp only [Act.put, List.setIfInBounds_toArray, List.set_cons_zero, List.set_cons_succ])
                obtain ⟨e0, e1, e2, e3, ef⟩ := HBZ.out
                refine wpAnyH_ready (rs := [13]) (by kernel_rfl) (by simp) ?_
                refine AllReadyH.cons rfl (fun K hK => ?_) AllReadyH.nil
                go_simp
                have hBs := bset (bset (bset (bset hHeld (o := 0) hge0 (.int .i64 tz)) (o := 1) hge0 (.slice Dz nz cz)) (o := 2) hge0 (.int .i64 uz)) (o := 3) hge0 (.slice Gz gnz gcz)
                refine hK.out _ _ (by first | exact hBs | (simp at hBs ⊢; exact hBs)) (fun hHeld2 => ?_)
                clear hK K
                (try simp only [Act.put, List.setIfInBounds_toArray, List.set_cons_zero, List.set_cons_succ])
                refine take_want (i := 14) (v := ?v14m47) rfl (by kernel_rfl) (by kernel_rfl) (by kernel_rfl) (fun _ _ _ h => h) (by rfl) ?y14m47 (by assumption) ?r14m47
                case y14m47 => (intro w hSw; go_simp; all_goals with_reducible rfl)
                (try simp only [Act.put, List.setIfInBounds_toArray, List.set_cons_zero, List.set_cons_succ])
                refine wpAnyH_done (by kernel_rfl) ?_ _
                go_wp2_with fail
                go_meet
                exact ⟨w13.heap.size, (⟨Dz, nz, cz, Gz, gnz, gcz⟩, ⟨tz, Lz, uz, Xz⟩), rfl, rfl, Lib.hid HOZ.out.1, Lib.hid hz, Lib.hid HOZ.out.2, Lib.hid hge0, Lib.hid hHeld2⟩
            case rest =>
            obtain ⟨w15, rfl⟩ : ∃ w, w = wc := ⟨_, rfl⟩
            obtain ⟨h, ⟨⟨Dz, nz, cz, Gz, gnz, gcz⟩, ⟨tz, Lz, uz, Xz⟩⟩, rfl, rfl, HBZ, HZJ, HOZ, HGE, HB15⟩ := hcut
            simp only at HBZ
            by_cases hje : je = 0
            case neg =>
              have z1 : (je != 0) = true := by rw [bne_iff_ne]; exact hje
              have HBAD := Lib.hid (HST.out.bad hiZ hje (by rw [← HXZ.out]; exact HPQ.out.2 hje))
              have HBB := Lib.hid (HST.out.below.trans ((bthen HB13.out HB15.out).mono HST.out.below.size))
              clear hje p0 p1 p2 p3 x0 x1 x2 x3
              go_wp2_with fail
              go_ret2
              exact ⟨none, [], 0, je, rfl, HBAD.out, ⟨.inl rfl, (fun z hz => by cases hz)⟩, ⟨Nat.le_refl _, fun _ => rfl⟩, HBB.out⟩
            case pos =>
            subst hje
            have HPP := Lib.hid (HPQ.out.1 rfl)
            have HBX2 := Lib.hid (HBX.out.keep HB15.out)
            have hgh : g8 < h := by have := HGE.out; omega
            obtain ⟨e0, e1, e2, e3, ef⟩ := HBZ.out
            obtain ⟨b0, b1, b2, b3, bf⟩ := HBX2.out
            have HS := Lib.hid (store_box (z := (⟨Dz, nz, cz, Gz, gnz, gcz⟩, ⟨tz, Lz, uz, Xz⟩)) HBX2.out HOZ.out (own_apart HOZ.out.d (by omega)) (own_apart HOZ.out.g (by omega)))
            have HBB := Lib.hid (bthen HB13.out HB15.out)
            clear p0 p1 p2 p3 x0 x1 x2 x3
            go_wp2_with fail
            obtain ⟨w18, hw18⟩ : ∃ w18, w18 = (((w15.setCell ⟨g8, 0, none⟩ (.int .i64 tz)).setCell ⟨g8, 1, none⟩ (.slice Dz nz cz)).setCell ⟨g8, 2, none⟩ (.int .i64 uz)).setCell ⟨g8, 3, none⟩ (.slice Gz gnz gcz) := ⟨_, rfl⟩
            go_meet
            case rel =>
              have hB18 := bset (bset (bset (bset HBB.out (o := 0) hg9 (.int .i64 tz)) (o := 1) hg9 (.slice Dz nz cz)) (o := 2) hg9 (.int .i64 uz)) (o := 3) hg9 (.slice Gz gnz gcz)
              exact ⟨k + 1, (⟨Dz, nz, cz, Gz, gnz, gcz⟩, ⟨tz, Lz, uz, Xz⟩), by go_num, Lib.hid HS.out.1, Lib.hid HS.out.2.good, Lib.hid (by have h1 := HPP.out; rw [← HZJ.out] at h1; exact h1), Lib.hid hB18⟩
          --]
        case rest =>
        obtain ⟨w20, rfl⟩ : ∃ w, w = wc := ⟨_, rfl⟩
        obtain ⟨r, ⟨⟨Dz, nz, cz, Gz, gnz, gcz⟩, ⟨tz, Lz, uz, Xz⟩⟩, rfl, HBZ, HZG, HPT, HB20⟩ := hcut
        simp only at HBZ HPT
        obtain ⟨z, hz⟩ : ∃ z : RZ, z = (⟨Dz, nz, cz, Gz, gnz, gcz⟩, ⟨tz, Lz, uz, Xz⟩) := ⟨_, rfl⟩
        have HZ := Lib.hid hz
        clear hz
        have hrl : r ≤ O.length := HPT.out.rl
        have HRK := Lib.hid HPT.out.rk
        have hko : k ≤ O.length := HPT.out.kl
        have hlenO : len = O.length := HLEN.out
        have hol : O.length ≤ 1000000 := by omega
        have HLE := Lib.hid HST.out.le
        have HNIL := Lib.hid HST.out.nil
        have sl1 := slice_front B len cO k hkl (by have := HLE.out; omega)
        have sl2 := slice_back B len cO r (by omega) (by have := HLE.out; omega)
        have HROW := Lib.hid (HST.out.rows.keep HB20.out)
        have HR1 := Lib.hid (row_front HROW.out.row k)
        have HR2 := Lib.hid (row_backA (c := cO) HROW.out.row hrl HLE.out)
        have HTK := Lib.hid (show k = (O.take k).length by rw [List.length_take]; omega)
        have HDR := Lib.hid (show len - r = (O.drop r).length by rw [List.length_drop]; omega)
        have HBNN := Lib.hid (backA_none (c := cO) (r := r) HNIL.out)
        have HLR := Lib.hid (show len - r ≤ cO - r by have := HLE.out; omega)
        have HKC := Lib.hid (show k ≤ cO by have := HLE.out; omega)
        obtain ⟨b0, b1, b2, b3, bf⟩ := HBZ.out
        have hg20 : g8 < w20.heap.size := HBZ.out.lt
        have hlen9' : len ≤ 1000000 := hlen9
        clear hlenO
        go_upto_region 21 with (at_builtin; refine wpList_append_rows rfl _ _ rfl w20.heap.size _ 0 [] rfl B k cO (O.take k) rfl (own_empty (Nat.le_refl _)) (HR1.out.keep (Nat.le_refl _) (bpush (Below.refl _ _) _)) HTK.out HKC.out HNIL.out (by omega) (by simp) ?_; intro v1 w1 ho1 hg1)
        rw [Nat.zero_add, List.nil_append] at ho1
        have hb1 : Below w20.heap.size w20 w1 := (bpush (Below.refl _ _) _).trans (grown_below4 (s := 4) (own_empty (Nat.le_refl _)) hg1 (by simp))
        have hb1' := hb1
        obtain ⟨Av, cv, rfl⟩ := own_is ho1
        have HO1 := Lib.hid ho1
        have HB1 := Lib.hid hb1
        have b0 := cell_on hb1 b0
        have b1 := cell_on hb1 b1
        have b2 := cell_on hb1 b2
        have b3 := cell_on hb1 b3
        clear ho1 hg1 hb1 hb1'
        have HZR := Lib.hid (show Row (w1.alloc (.cells #[.int .i64 tz, .slice Dz nz cz, .int .i64 uz, .slice Gz gnz gcz] 59)) (some ⟨w1.heap.size, 0, none⟩) (cellsR [z]) by rw [cellsR_one, HZ.out]; exact Row.made (t := 59) rfl rfl)
        have HSZ := Lib.hid (show w20.heap.size ≤ (w1.alloc (.cells #[.int .i64 tz, .slice Dz nz cz, .int .i64 uz, .slice Gz gnz gcz] 59)).heap.size by have := HB1.out.size; simp; omega)
        have HK64 := Lib.hid (show (k + 1) * 64 ≤ 140737488355328 by omega)
        have HNN := Lib.hid (show (some (⟨w1.heap.size, 0, none⟩ : Addr)) = none → 1 = 0 from fun h => by cases h)
        go_upto_region 22 with (at_builtin; refine wpList_append_rows rfl _ _ rfl w20.heap.size (.slice Av k cv) k (cellsR (O.take k)) rfl (some ⟨w1.heap.size, 0, none⟩) 1 1 [z] rfl (HO1.out.alloc _) HZR.out rfl (Nat.le_refl _) HNN.out HK64.out HSZ.out ?_; intro v2 w2 ho2 hg2)
        have hb2 : Below w20.heap.size w1 w2 := ((bpush (Below.refl _ _) _).mono HB1.out.size).trans (grown_below4 (HO1.out.alloc _) hg2 (by have := HB1.out.size; simp; omega))
        obtain ⟨Au, cu, rfl⟩ := own_is ho2
        have HO2 := Lib.hid (show w2.ownsRow w20.heap.size 59 4 (.slice Au (k + 1) cu) (k + 1) (cellsR (O.take k ++ [z])) by rw [cellsR_app]; exact ho2)
        have HB2 := Lib.hid (HB1.out.trans hb2)
        clear ho2 hg2 hb2 b0 b1 b2 b3
        have HK65 := Lib.hid (show (k + 1 + (len - r)) * 64 ≤ 140737488355328 by omega)
        go_wp2_with (at_builtin; refine wpList_append_rows rfl _ _ rfl w20.heap.size (.slice Au (k + 1) cu) (k + 1) (cellsR (O.take k ++ [z])) rfl (backA B cO r) (len - r) (cO - r) (O.drop r) rfl HO2.out (HR2.out.keep (Nat.le_refl _) HB2.out) HDR.out HLR.out HBNN.out HK65.out HB2.out.size ?_; intro v3 w3 ho3 hg3)
        have HB3 := Lib.hid (HB2.out.trans (grown_below4 HO2.out hg3 HB2.out.size))
        have ho3' : w3.ownsRow w20.heap.size 59 4 v3 (k + 1 + (len - r)) (cellsR (O.take k ++ z :: O.drop r)) := by
          have e : O.take k ++ z :: O.drop r = (O.take k ++ [z]) ++ O.drop r := by simp
          rw [e, cellsR_app]; exact ho3
        obtain ⟨hn3, A3, c3, rfl, hr3, hc3, hm3, ha3⟩ := own_sliceR ho3'
        rw [hn3]
        have HN3 := Lib.hid (show RefSt w Z q dq (i + 1) A3 c3 (O.take k ++ z :: O.drop r) w3 from by
          refine HST.out.next hiZ (by rw [← HXZ.out, HZ.out]; exact HPT.out) ⟨hr3, fun y hy => ?_⟩ (by rw [← hn3]; exact hc3) ha3 (HST.out.below.trans ((bthen HB20.out HB3.out).mono HST.out.below.size))
          rcases List.mem_append.1 hy with hy | hy
          · exact (HROW.out.good y (List.mem_of_mem_take hy)).keep HB3.out
          · rcases List.mem_cons.1 hy with rfl | hy
            · exact (by rw [HZ.out]; exact HZG.out.keep HB3.out)
            · exact (HROW.out.good y (List.mem_of_mem_drop hy)).keep HB3.out)
        clear ho3 ho3' hg3 hn3 hr3 hc3 hm3 ha3
        go_wp2_with fail
        go_roundw
        case rel => exact ⟨i + 1, A3, c3, O.take k ++ z :: O.drop r, rfl, by go_num, by omega, HN3⟩
        case measure => simp [intOf]; omega
end Go.Proofs.YtmmeekmiildliaaGreatDoor
