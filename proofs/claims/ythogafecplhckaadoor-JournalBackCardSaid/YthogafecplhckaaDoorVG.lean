/- A vault with its files' bytes; bytes are appended. -/
import Derived.Test.YthogafecplhckaaDoorVF
namespace Go.Proofs.YthogafecplhckaaDoor
open Go.RowKit Go.Maps Go.Shelf
set_option linter.unusedSimpArgs false
set_option linter.unusedVariables false
def u8s (l : List Int) : List Value := l.map (Value.int .u8)
theorem u8s_len (l : List Int) : (u8s l).length = l.length := by simp [u8s]
theorem u8s_app (l m : List Int) : u8s l ++ u8s m = u8s (l ++ m) := by simp [u8s]
theorem one_u8s (l : List Int) : ∀ u ∈ u8s l, u.oneCell' = true := by
  intro u hu
  obtain ⟨x, _, rfl⟩ := List.mem_map.1 hu
  rfl
theorem run_append_u8s (w : World) (ty : TypeId) (base : Nat) (v : Value) (n : Nat) (xs : List Value) (hown : w.ownsRow base 5 1 v n xs) (A : Option Addr) (m c : Nat) (M : List Int)
    (hrow : Row w A (u8s M)) (hm : m = M.length) (hmc : m ≤ c) (ha : A = none → c = 0) (h63 : (n + m) * 1 ≤ 140737488355328) (hbase : base ≤ w.heap.size) :
    ∃ v' w', (Builtin.append_ #[25, 25] ty #[v, .slice A m c]).run Tryd.prog w = .ok v' w' ∧ w'.ownsRow base 5 1 v' (n + m) (xs ++ u8s M) ∧ w.grownBy w' v.ownBlock ∧ (v'.ownBlock = v.ownBlock ∨ v'.ownBlock = some w.heap.size) := by
  obtain ⟨i0, hi0, hz0, hz1, hz2⟩ := info_parts info5
  cases A with
  | none =>
    have e1 : c = 0 := ha rfl
    have e2 : m = 0 := by omega
    have e3 : M = [] := List.eq_nil_of_length_eq_zero (by omega)
    subst e1 e2 e3
    have hrun := run_append_owned_none (P := Tryd.prog) (w := w) base 25 ty 5 i0 1 Tryd.underlying25 hi0 v n xs hown
    exact ⟨v, w, hrun, by simpa [u8s] using hown, ⟨rfl, rfl, rfl, Nat.le_refl _, fun _ _ _ => rfl⟩, .inl rfl⟩
  | some a =>
    obtain ⟨v', w', hr, h2, h3, _, h5⟩ := run_append_own_at (P := Tryd.prog) w base 25 ty 5 i0 (.int .u8 0) 1 1 Tryd.underlying25 hi0 hz0 hz1 hz2 rfl (by decide) v n xs hown a m c (u8s M) (by rw [Nat.mul_one]; simp [u8s]; exact hm.symm) hrow.at' (one_u8s M) (by unfold maxLen; omega) h63 hbase
    exact ⟨v', w', hr, h2, h3, h5⟩
theorem wpList_append_u8s {w : World} {ops : Array Oper} {rest : List Oper} {o : Oper} {a : Act} {Q : Exit → Act → World → Prop} (hgd : o.guard = none) (s x : Operand)
    (ho : o.op = .call { callee := .builtin .append, args := #[s, x], argTypes := #[25, 25] })
    (base : Nat) (v : Value) (n : Nat) (xs : List Value) (hs : a.eval s = v) (A : Option Addr) (m c : Nat) (M : List Int) (hx : a.eval x = .slice A m c) (hown : w.ownsRow base 5 1 v n xs)
    (hrow : Row w A (u8s M)) (hm : m = M.length) (hmc : m ≤ c) (ha : A = none → c = 0) (h63 : (n + m) * 1 ≤ 140737488355328) (hbase : base ≤ w.heap.size)
    (h : ∀ v' w', w'.ownsRow base 5 1 v' (n + m) (xs ++ u8s M) → w.grownBy w' v.ownBlock → (v'.ownBlock = v.ownBlock ∨ v'.ownBlock = some w.heap.size) → wpList Tryd.prog ops Q rest (a.put o.dst v') w') :
    wpList Tryd.prog ops Q (o :: rest) a w := by
  refine wpList_plain hgd fun K hK => ?_
  obtain ⟨v', w', hr, h2, h3, h4⟩ := run_append_u8s w o.type base v n xs hown A m c M hrow hm hmc ha h63 hbase
  unfold Oper.wp execOp
  simp only [ho, resolve, invoke, builtin, Sem.run_bind, Sem.run_pure, Result.andThen_ok, List.map_toArray, List.map_cons, List.map_nil, hs, hx, hr]
  exact hK _ _ (h v' w' h2 h3 h4)
def blkF (f : FZ) : Option Nat := (Value.slice f.A f.n f.c).ownBlock
def OwnF (w : World) (B : Nat) (f : FZ) : Prop := w.ownsRow B 5 1 (.slice f.A f.n f.c) f.n (u8s f.bs)
def apartF (f g : FZ) : Prop := ∀ b, blkF f = some b → blkF g ≠ some b
theorem apartF.symm {f g : FZ} (h : apartF f g) : apartF g f := fun b h1 h2 => h b h2 h1
theorem OwnF.fr {w w' : World} {B : Nat} {f : FZ} {S : Nat → Prop} (h : OwnF w B f) (hf : Fr S w w') (hs : ∀ b, blkF f = some b → ¬ S b) : OwnF w' B f := by
  obtain ⟨h1, h2⟩ := h
  refine ⟨h1, ?_⟩
  rcases h2 with h2 | ⟨g, cap, cur, e1, e2, e3, r⟩
  · exact .inl h2
  · refine .inr ⟨g, cap, cur, e1, e2, ?_, r⟩
    have hlt : g < w.heap.size := (Array.getElem?_eq_some_iff.1 e3).1
    exact (hf.block g hlt (hs g (by unfold blkF; rw [e1]; rfl))).trans e3
theorem OwnF.n {w : World} {B : Nat} {f : FZ} (h : OwnF w B f) : f.n = f.bs.length := by have := h.1; rw [u8s_len] at this; omega
theorem OwnF.lt {w : World} {B : Nat} {f : FZ} (h : OwnF w B f) {b : Nat} (hb : blkF f = some b) : b < w.heap.size ∧ B ≤ b ∧ ∃ cs fz, w.heap[b]? = some (.cells cs 5 fz) := by
  rcases h.2 with ⟨e, _⟩ | ⟨g, cap, cur, e1, e2, e3, r⟩
  · unfold blkF at hb; rw [e] at hb; cases hb
  · unfold blkF at hb
    rw [e1] at hb
    obtain rfl : g = b := by simpa [Value.ownBlock] using hb
    exact ⟨(Array.getElem?_eq_some_iff.1 e3).1, e2, _, _, e3⟩
/-- A vault: its cell, its map, and its files' bytes, each file's its own. -/
structure VRep (w : World) (B a : Nat) (V : VZ) : Prop where
  core : VCore w a V
  own : ∀ f ∈ V.F, OwnF w B f
  apart : V.F.Pairwise apartF
  byt : ∀ f ∈ V.F, bytes f.bs
  safe : ∀ f ∈ V.F, f.safe ≤ f.n
  name : ∀ f ∈ V.F, f.name.size ≤ 12
  ba : B ≤ a
  bb : B ≤ V.b
  used : usedF V.F ≤ V.room
  len : V.F.length ≤ 200
def Foot (a : Nat) (V : VZ) (i : Nat) : Prop := i = a ∨ i = V.b ∨ ∃ f ∈ V.F, blkF f = some i
theorem VRep.not_a {w : World} {B a : Nat} {V : VZ} (h : VRep w B a V) {f : FZ} (hf : f ∈ V.F) : blkF f ≠ some a ∧ blkF f ≠ some V.b := by
  constructor
  · intro e
    obtain ⟨_, _, cs, fz, h1⟩ := (h.own f hf).lt e
    have := h.core.blk
    unfold Blk at this
    rw [h1] at this; cases this
  · intro e
    obtain ⟨_, _, cs, fz, h1⟩ := (h.own f hf).lt e
    obtain ⟨n, es, clock, h2, _⟩ := h.core.map
    rw [h1] at h2; cases h2
theorem VRep.fr {w w' : World} {B a : Nat} {V : VZ} {S : Nat → Prop} (h : VRep w B a V) (hf : Fr S w w') (hs : ∀ i, Foot a V i → ¬ S i) : VRep w' B a V :=
  { h with
    core := h.core.fr hf (hs a (.inl rfl)) (hs V.b (.inr (.inl rfl)))
    own := fun f hfm => (h.own f hfm).fr hf fun b hb => hs b (.inr (.inr ⟨f, hfm, hb⟩)) }
theorem VRep.below {w w' : World} {B a : Nat} {V : VZ} (h : VRep w B a V) (hb : Below w.heap.size w w') : VRep w' B a V := h.fr (S := fun _ => False) (Fr.of_below hb) fun _ _ h => h
theorem VRep.foot_lt {w : World} {B a : Nat} {V : VZ} (h : VRep w B a V) {i : Nat} (hi : Foot a V i) : i < w.heap.size ∧ B ≤ i := by
  rcases hi with rfl | rfl | ⟨f, hf, hb⟩
  · exact ⟨h.core.la, h.ba⟩
  · exact ⟨h.core.lb, h.bb⟩
  · have := (h.own f hf).lt hb
    exact ⟨this.1, this.2.1⟩
/-- The core may have turned, the files stay. -/
theorem VRep.turn {w w' : World} {B a : Nat} {V V' : VZ} (h : VRep w B a V) (hc : VCore w' a V') (hf : Fr (fun i => i = a) w w') (hF : V'.F = V.F) (hb : V'.b = V.b) (hr : V'.room = V.room) : VRep w' B a V' :=
  ⟨hc, by rw [hF]; exact fun f hfm => (h.own f hfm).fr hf fun b hb e => (h.not_a hfm).1 (by rw [hb, e]), by rw [hF]; exact h.apart, by rw [hF]; exact h.byt, by rw [hF]; exact h.safe, by rw [hF]; exact h.name, h.ba, by rw [hb]; exact h.bb, by rw [hF, hr]; exact h.used, by rw [hF]; exact h.len⟩
/-- What an act leaves. -/
structure Left (w w' : World) (B a : Nat) (V V' : VZ) : Prop where
  rep : VRep w' B a V'
  fr : Fr (Foot a V) w w'
  foot : ∀ i, Foot a V' i → Foot a V i ∨ w.heap.size ≤ i
/-- A file without where it lies. -/
def normF (f : FZ) : FZ := { f with A := none, c := 0 }
def normZ (V : VZ) : VZ := { V with b := 0, F := V.F.map normF }
theorem norm_drop (F : List FZ) (s : ByteArray) : (dropF F s).map normF = dropF (F.map normF) s := by
  unfold dropF; rw [List.filter_map]; rfl
theorem ins_cons (f g : FZ) (r : List FZ) : insF f (g :: r) = if bytesBefore (dat f.name) (dat g.name) then f :: g :: r else g :: insF f r := rfl
theorem norm_ins (f : FZ) : ∀ F : List FZ, (insF f F).map normF = insF (normF f) (F.map normF) := by
  intro F
  induction F with
  | nil => rfl
  | cons g F ih =>
    rw [ins_cons, List.map_cons, ins_cons]
    have e : bytesBefore (dat (normF f).name) (dat (normF g).name) = bytesBefore (dat f.name) (dat g.name) := rfl
    rw [e]
    split
    · rfl
    · rw [List.map_cons, ih]
theorem norm_put (F : List FZ) (f : FZ) : (putF F f).map normF = putF (F.map normF) (normF f) := by unfold putF; rw [norm_ins, norm_drop]; rfl
theorem norm_look (F : List FZ) (s : ByteArray) : lookF (F.map normF) s = (lookF F s).map normF := by
  unfold lookF; rw [List.find?_map]; rfl
theorem norm_lk (F : List FZ) (s : ByteArray) : lkF (F.map normF) s = normF (lkF F s) := by
  unfold lkF; rw [norm_look]; cases lookF F s <;> rfl
theorem norm_used (F : List FZ) : usedF (F.map normF) = usedF F := by unfold usedF; rw [List.map_map]; rfl
theorem norm_act (V : VZ) : normZ (actZ V) = actZ (normZ V) := by unfold actZ normZ; simp only; split <;> rfl
theorem norm_brk (V : VZ) : brkZ (normZ V) = brkZ V := rfl
theorem norm_err (V : VZ) : errZ (normZ V) = errZ V := by unfold errZ; rw [← norm_act, norm_brk]
end Go.Proofs.YthogafecplhckaaDoor
