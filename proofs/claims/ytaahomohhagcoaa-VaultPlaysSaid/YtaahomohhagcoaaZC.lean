/- Lists of files: append, parts. -/
import Derived.Test.YtaahomohhagcoaaZB
import Derived.Deep.DeepCutAuto
namespace Go.Proofs.Ytaahomohhagcoaa
open Go.RowKit Go.Maps Go.Shelf Go.Lib
set_option linter.unusedSimpArgs false
set_option linter.unusedVariables false
theorem info66 : (Try.prog.info? 66).map (fun i => (i.zero, i.size, i.bytes)) = some (some (.agg #[.string ⟨#[]⟩, .slice none 0 0, .int .i64 0]), 3, 48) := by kernel_rfl
theorem run_append_files (w : World) (ty : TypeId) (base : Nat) (v : Value) (n : Nat) (xs : List Value) (hown : w.ownsRow base 66 3 v n xs) (A : Option Addr) (m c : Nat) (M : List FZ)
    (hrow : Row w A (cellsF M)) (hm : m = M.length) (hmc : m ≤ c) (ha : A = none → c = 0) (h63 : (n + m) * 48 ≤ 140737488355328) (hbase : base ≤ w.heap.size) :
    ∃ v' w', (Builtin.append_ #[58, 58] ty #[v, .slice A m c]).run Try.prog w = .ok v' w' ∧ w'.ownsRow base 66 3 v' (n + m) (xs ++ cellsF M) ∧ w.grownBy w' v.ownBlock := by
  obtain ⟨i0, hi0, hz0, hz1, hz2⟩ := info_parts info66
  cases A with
  | none =>
    have e1 : c = 0 := ha rfl
    have e2 : m = 0 := by omega
    have e3 : M = [] := List.eq_nil_of_length_eq_zero (by omega)
    subst e1 e2 e3
    have hrun := run_append_owned_none (P := Try.prog) (w := w) base 58 ty 66 i0 3 Try.underlying58 hi0 v n xs hown
    exact ⟨v, w, hrun, by simpa [cellsF] using hown, ⟨rfl, rfl, rfl, Nat.le_refl _, fun _ _ _ => rfl⟩⟩
  | some a =>
    obtain ⟨v', w', hr, h2, h3, _, h5⟩ := run_append_own_at (P := Try.prog) w base 58 ty 66 i0 (.agg #[.string ⟨#[]⟩, .slice none 0 0, .int .i64 0]) 3 48 Try.underlying58 hi0 hz0 hz1 hz2 rfl (by decide) v n xs hown a m c (cellsF M) (by rw [cellsF_length, hm]) hrow.at' (one_cellsF M) (by unfold maxLen; omega) h63 hbase
    exact ⟨v', w', hr, h2, h3⟩
theorem wpList_append_files {w : World} {ops : Array Oper} {rest : List Oper} {o : Oper} {a : Act} {Q : Exit → Act → World → Prop} (hgd : o.guard = none) (s x : Operand)
    (ho : o.op = .call { callee := .builtin .append, args := #[s, x], argTypes := #[58, 58] })
    (base : Nat) (v : Value) (n : Nat) (xs : List Value) (hs : a.eval s = v) (A : Option Addr) (m c : Nat) (M : List FZ) (hx : a.eval x = .slice A m c) (hown : w.ownsRow base 66 3 v n xs)
    (hrow : Row w A (cellsF M)) (hm : m = M.length) (hmc : m ≤ c) (ha : A = none → c = 0) (h63 : (n + m) * 48 ≤ 140737488355328) (hbase : base ≤ w.heap.size)
    (h : ∀ v' w', w'.ownsRow base 66 3 v' (n + m) (xs ++ cellsF M) → w.grownBy w' v.ownBlock → wpList Try.prog ops Q rest (a.put o.dst v') w') :
    wpList Try.prog ops Q (o :: rest) a w := by
  refine wpList_plain hgd fun K hK => ?_
  obtain ⟨v', w', hr, h2, h3⟩ := run_append_files w o.type base v n xs hown A m c M hrow hm hmc ha h63 hbase
  unfold Oper.wp execOp
  simp only [ho, resolve, invoke, builtin, Sem.run_bind, Sem.run_pure, Result.andThen_ok, List.map_toArray, List.map_cons, List.map_nil, hs, hx, hr]
  exact hK _ _ (h v' w' h2 h3)
theorem row_front {w : World} {A : Option Addr} {Z : List FZ} (h : Row w A (cellsF Z)) (k : Nat) : Row w A (cellsF (Z.take k)) := by
  rcases h with h0 | ⟨b, off, rfl, hc⟩
  · have hl := cellsF_length Z
    rw [h0] at hl
    have : Z = [] := List.eq_nil_of_length_eq_zero (by simp at hl; omega)
    subst this
    exact .inl (by simp [cellsF])
  · refine .inr ⟨b, off, rfl, fun j u hu => hc j u ?_⟩
    have e : cellsF Z = cellsF (Z.take k) ++ cellsF (Z.drop k) := by rw [← cellsF_app, List.take_append_drop]
    rw [e, List.getElem?_append_left]
    · exact hu
    · exact (List.getElem?_eq_some_iff.1 hu).1
theorem row_back {w : World} {b off : Nat} {Z : List FZ} (h : Row w (some ⟨b, off, none⟩) (cellsF Z)) (k : Nat) (hk : k ≤ Z.length) : Row w (some ⟨b, off + k * 3, none⟩) (cellsF (Z.drop k)) := by
  rcases h with h0 | ⟨b', off', he, hc⟩
  · have hl := cellsF_length Z
    rw [h0] at hl
    have : Z = [] := List.eq_nil_of_length_eq_zero (by simp at hl; omega)
    subst this
    exact .inl (by simp [cellsF])
  · cases he
    refine .inr ⟨b, off + k * 3, rfl, fun j u hu => ?_⟩
    have e : cellsF Z = cellsF (Z.take k) ++ cellsF (Z.drop k) := by rw [← cellsF_app, List.take_append_drop]
    have hl := cellsF_length (Z.take k)
    rw [List.length_take, Nat.min_eq_left hk] at hl
    have := hc (k * 3 + j) u (by rw [e, List.getElem?_append_right (by omega), hl, Nat.add_sub_cancel_left]; exact hu)
    rwa [← Nat.add_assoc] at this
theorem slice_front (A : Option Addr) (n c k : Nat) (hk : k ≤ n) (hn : n ≤ c) (W : World) : Sem.run Try.prog (Instr.slice 58 (.slice A n c) none (some (.int .i64 (k : Int))) none) W = .ok (.slice A k c) W := by
  have e : Try.prog.elem 58 = 66 := by kernel_rfl
  have hs : ∀ W, Sem.run Try.prog (Go.sizeOf (Try.prog.elem 58)) W = .ok 3 W := fun _ => by kernel_rfl
  rw [run_slice_h W 58 A n c (by rw [e]; exact Try.underlying58) .i64 k (by omega) (by omega), hs]
  simp only [Result.andThen, sliced, Int.toNat_natCast]
  cases A with
  | none => simp
  | some a =>
    have : a.add 0 = a := by unfold Addr.add; simp
    simp [this]
def backA (A : Option Addr) (c r : Nat) : Option Addr := A.map fun a => if c = r then a else a.add (r * 3)
theorem slice_back (A : Option Addr) (n c r : Nat) (hr : r ≤ n) (hn : n ≤ c) (W : World) : Sem.run Try.prog (Instr.slice 58 (.slice A n c) (some (.int .i64 (r : Int))) none none) W = .ok (.slice (backA A c r) (n - r) (c - r)) W := by
  have e : Try.prog.elem 58 = 66 := by kernel_rfl
  have hs : ∀ W, Sem.run Try.prog (Go.sizeOf (Try.prog.elem 58)) W = .ok 3 W := fun _ => by kernel_rfl
  rw [run_slice_l W 58 A n c (by rw [e]; exact Try.underlying58) .i64 r (by omega) (by omega), hs]
  simp only [Result.andThen, sliced, Int.toNat_natCast]
  unfold backA
  cases A with
  | none => simp
  | some a => simp only [Option.map_some]; by_cases hc : c = r <;> simp [hc]
theorem row_backA {w : World} {A : Option Addr} {c r : Nat} {Z : List FZ} (h : Row w A (cellsF Z)) (hr : r ≤ Z.length) (hc : Z.length ≤ c) : Row w (backA A c r) (cellsF (Z.drop r)) := by
  cases A with
  | none =>
    rcases h with h0 | ⟨_, _, he, _⟩
    · have hl := cellsF_length Z
      rw [h0] at hl
      have : Z = [] := List.eq_nil_of_length_eq_zero (by simp at hl; omega)
      subst this
      exact .inl (by simp [cellsF])
    · cases he
  | some a =>
    unfold backA
    simp only [Option.map_some]
    by_cases e : c = r
    · rw [List.drop_eq_nil_of_le (by omega)]; exact .inl rfl
    · rw [if_neg e]
      rcases h with h0 | ⟨b, off, he, hcc⟩
      · have hl := cellsF_length Z
        rw [h0] at hl
        have : Z = [] := List.eq_nil_of_length_eq_zero (by simp at hl; omega)
        subst this
        exact .inl (by simp [cellsF])
      · cases he
        have : (⟨b, off, none⟩ : Addr).add (r * 3) = ⟨b, off + r * 3, none⟩ := by
          unfold Addr.add; split
          · rename_i h; rw [h]; rfl
          · rfl
        rw [this]
        exact row_back (.inr ⟨b, off, rfl, hcc⟩) r hr
theorem backA_none {A : Option Addr} {c r : Nat} (ha : A = none → c = 0) : backA A c r = none → c - r = 0 := by
  intro h
  cases A with
  | none => rw [ha rfl]; omega
  | some a => unfold backA at h; simp at h
theorem grown_below4 {w w' : World} {B : Nat} {v : Value} {e : TypeId} {s n : Nat} {xs : List Value} (hown : w.ownsRow B e s v n xs) (hg : w.grownBy w' v.ownBlock) (h : B ≤ w.heap.size) : Below B w w' :=
  ⟨hg.os, hg.tape, hg.output, hg.size, fun i hi => hg.block i (by omega) (by
    rcases hown.2 with ⟨rfl, _⟩ | ⟨g, cap, cur, rfl, hb, _⟩
    · simp [Value.ownBlock]
    · simp [Value.ownBlock]; omega)⟩
end Go.Proofs.Ytaahomohhagcoaa
