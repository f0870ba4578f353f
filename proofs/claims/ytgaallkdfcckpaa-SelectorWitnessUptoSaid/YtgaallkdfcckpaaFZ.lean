/- What is used: mathematics, and the walk of TyperUsed (4). -/
import Derived.Test.YtgaallkdfcckpaaFW
import Derived.Deep.RegionHeld3
namespace Go.Proofs.Ytgaallkdfcckpaa
open Go.RowKit Go.Maps Go.Lib Go.Shelf
set_option linter.unusedSimpArgs false
set_option linter.unusedVariables false
theorem slice_hi (A : Option Addr) (n c k : Nat) (h : k ≤ c) (h0 : 0 < c) (W : World) : Sem.run Try.prog (Instr.slice 22 (.slice A n c) none (some (.int .i64 (k : Int))) none) W = .ok (.slice A k c) W := by
  have hs : ∀ W, Sem.run Try.prog (Go.sizeOf (Try.prog.elem 22)) W = .ok 1 W := fun _ => by kernel_rfl
  have e : Try.prog.elem 22 = 9 := by kernel_rfl
  rw [run_slice_h W 22 A n c (by rw [e]; exact Try.underlying22) .i64 k (by omega) (by omega), hs]
  have : ¬ c = 0 := by omega
  cases A <;> simp [Result.andThen, sliced, this, Addr.add]
theorem slice_lo (b off n c k : Nat) (o : Nat) (ho : o = if c = k then off else off + k) (h : k ≤ n) (W : World) : Sem.run Try.prog (Instr.slice 22 (.slice (some ⟨b, off, none⟩) n c) (some (.int .i64 (k : Int))) none none) W = .ok (.slice (some ⟨b, o, none⟩) (n - k) (c - k)) W := by
  have hs : ∀ W, Sem.run Try.prog (Go.sizeOf (Try.prog.elem 22)) W = .ok 1 W := fun _ => by kernel_rfl
  have e : Try.prog.elem 22 = 9 := by kernel_rfl
  rw [run_slice_l W 22 (some ⟨b, off, none⟩) n c (by rw [e]; exact Try.underlying22) .i64 k (by omega) (by omega), hs]
  have e2 : (⟨b, off, none⟩ : Addr).add k = ⟨b, off + k, none⟩ := by
    unfold Addr.add; split
    · rename_i h; subst h; rfl
    · rfl
  subst ho
  simp only [Result.andThen, sliced, Int.toNat_natCast, Nat.mul_one, Option.map_some, e2]
  split <;> rfl
theorem chkS_zero {a b c : Bool} (h : chkS a b c = 0) : a = true ∧ b = true ∧ c = true := by
  cases a <;> cases b <;> cases c <;> first | exact ⟨rfl, rfl, rfl⟩ | (exfalso; revert h; decide)
def usedK (q : QZ) : List ByteArray := q.BY ++ q.f.dims
theorem leaves_dims (L : List ByteArray) (f : FT) : f.leaves.all (lfN L) = f.dims.all (inT L) := by
  rw [dims_leaves, List.all_map]; rfl
theorem named_eq (L M : List ByteArray) (q : QZ) : namedS L M q = ((usedK q).all (inT L) && q.T.all (tmN M) && q.H.all (hvN M)) := by
  unfold namedS usedK
  rw [leaves_dims, List.all_append]
theorem inT_used {L K : List ByteArray} {x : ByteArray} (h : x ∈ K) : inT (usedL L K) x = inT L x := by
  rw [Bool.eq_iff_iff, inT_iff, inT_iff]
  unfold usedL
  rw [List.mem_filter, inT_iff]
  exact ⟨fun h => h.1, fun h2 => ⟨h2, h⟩⟩
theorem check_used {L M : List ByteArray} {q : QZ} (h : checkS L M q = 0) : checkS (usedL L (usedK q)) M q = 0 := by
  unfold checkS at h ⊢
  obtain ⟨h1, h2, h3⟩ := chkS_zero h
  rw [named_eq] at h2
  have h4 : namedS (usedL L (usedK q)) M q = true := by
    rw [named_eq]
    rw [← h2]
    congr 2
    rw [Bool.eq_iff_iff, List.all_eq_true, List.all_eq_true]
    exact ⟨fun k x hx => by rw [← inT_used hx]; exact k x hx, fun k x hx => by rw [inT_used hx]; exact k x hx⟩
  rw [h1, h4, h3]; rfl
theorem used_apart {L K : List ByteArray} (h : apartP L) : apartP (usedL L K) := by
  have h1 : L.Pairwise (· ≠ ·) := List.pairwise_iff_getElem.2 fun i j hi hj hij => h i j hij hj
  have h2 : (usedL L K).Pairwise (· ≠ ·) := h1.filter _
  intro i j hij hj
  exact List.pairwise_iff_getElem.1 h2 i j (by omega) hj hij
theorem sum_le {α : Type} (l : List α) (f g : α → Nat) (h : ∀ x ∈ l, f x ≤ g x) : (l.map f).sum ≤ (l.map g).sum := by
  induction l with
  | nil => simp
  | cons y l ih =>
    rw [List.map_cons, List.map_cons, List.sum_cons, List.sum_cons]
    have h1 := h y (List.mem_cons_self ..)
    have h2 := ih fun x hx => h x (List.mem_cons_of_mem _ hx)
    omega
theorem leaves_le : ∀ f : FT, f.leaves.length ≤ f.tot := by
  intro f
  induction f using FT.ind with
  | h f ih =>
    rw [f.leaves_eq, f.tot_eq, List.length_append, List.length_flatten, List.map_map]
    have h1 := sum_le f.ks (List.length ∘ FT.leaves) FT.tot (fun x hx => ih x hx)
    have h2 : (if isLeaf f.op then [f] else []).length ≤ 1 := by split <;> simp
    unfold FT.own
    omega
theorem and1023 (m : Int) : ∃ q : Nat, q ≤ 1023 ∧ bits .and .i64 m 1023 = (q : Int) := by
  refine ⟨(BitVec.ofInt 64 m &&& BitVec.ofInt 64 1023).toNat, ?_, ?_⟩
  · have h : (BitVec.ofInt 64 m &&& BitVec.ofInt 64 1023).toNat ≤ 1023 := by rw [BitVec.toNat_and]; exact Nat.and_le_right
    exact h
  · have h : (BitVec.ofInt 64 m &&& BitVec.ofInt 64 1023).toNat ≤ 1023 := by rw [BitVec.toNat_and]; exact Nat.and_le_right
    show IntKind.i64.wrap ((BitVec.ofInt 64 m &&& BitVec.ofInt 64 1023).toNat : Int) = _
    exact IntWalk.i64_in _ (by omega)
theorem apart_left {L M : List ByteArray} (h : apartP (L ++ M)) : apartP L := fun i j hij hj e => by
  refine h i j hij (by rw [List.length_append]; omega) ?_
  rw [List.getElem_append_left (by omega), List.getElem_append_left hj]
  exact e
theorem check_fewer {L M : List ByteArray} {q : QZ} (h : checkS L M q = 0) (hr : rightP L M) (k : Nat) (hk : k < (usedL L (usedK q)).length) :
    checkS ((usedL L (usedK q)).take k ++ (usedL L (usedK q)).drop (k + 1)) M q = 231 := by
  obtain ⟨U, hU⟩ : ∃ U, U = usedL L (usedK q) := ⟨_, rfl⟩
  have hap : apartP U := by rw [hU]; exact used_apart (apart_left hr.2.2.2.2)
  rw [← hU] at hk ⊢
  have hmem : U[k] ∈ usedK q := by
    have h1 : U[k] ∈ usedL L (usedK q) := by rw [← hU]; exact List.getElem_mem _
    unfold usedL at h1
    exact inT_iff.1 (List.mem_filter.1 h1).2
  have hno : inT (U.take k ++ U.drop (k + 1)) U[k] = false := by
    rw [Bool.eq_false_iff]
    intro e
    rw [inT_iff, List.mem_append] at e
    rcases e with e | e
    · obtain ⟨j, hj, e2⟩ := List.getElem_of_mem e
      rw [List.length_take] at hj
      rw [List.getElem_take] at e2
      exact hap j k (by omega) hk e2
    · obtain ⟨j, hj, e2⟩ := List.getElem_of_mem e
      rw [List.length_drop] at hj
      rw [List.getElem_drop] at e2
      exact hap k (k + 1 + j) (by omega) (by omega) e2.symm
  unfold checkS at h ⊢
  obtain ⟨h1, h2, h3⟩ := chkS_zero h
  have h4 : namedS (U.take k ++ U.drop (k + 1)) M q = false := by
    rw [named_eq, Bool.eq_false_iff]
    intro e
    simp only [Bool.and_eq_true] at e
    have := List.all_eq_true.1 e.1.1 _ hmem
    rw [hno] at this
    cases this
  rw [h1, h4]; rfl
theorem shape_q {q : QZ} (h : shapeS q = true) : q.f.shp 1 = true := by
  unfold shapeS at h
  simp only [Bool.and_eq_true] at h
  exact h.2
end Go.Proofs.Ytgaallkdfcckpaa
