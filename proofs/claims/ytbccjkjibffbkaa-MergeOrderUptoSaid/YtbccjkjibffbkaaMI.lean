/- heap.Push (33), heap.Pop (35). What a round of the merging keeps: the heap's memory while rows are handed on; the mathematics of merging. The cursors in the heap and what is left of the lists. Lists of lists of rows; sorted (16). The rows of sorted lists, handed on in order: closure 32. -/
import Derived.Test.YtbccjkjibffbkaaHG
import Derived.Test.YtbccjkjibffbkaaSA
import Derived.Test.YtbccjkjibffbkaaRG
import Derived.RangeFuncBox
import Derived.RangeFuncKeeps
import Derived.OwnWalkIn
import Derived.TacticsInMore
import Derived.LoopNIn
import Derived.LoopIn
namespace Go.Proofs.Ytbccjkjibffbkaa
open Go.RowKit Go.Shelf
set_option linter.unusedSimpArgs false
set_option linter.unusedVariables false
/-- A right heap of the cursors L, in some order. -/
structure HpOk (w0 ws : World) (P : Nat) (L : List Cu) (w : World) : Prop where
  ex : ∃ f, HeapSt w0 ws P L.length f w ∧ HeapOk ltU L.length f ∧ (seqF f L.length).Perm L
theorem HpOk.of {w0 ws w : World} {P n : Nat} {f : Nat → Cu} {L : List Cu} (h : HeapSt w0 ws P n f w) (hk : HeapOk ltU n f) (hp : (seqF f n).Perm L) : HpOk w0 ws P L w := by
  have hl := hp.length_eq
  rw [seqF_len] at hl
  subst hl
  exact ⟨f, h, hk, hp⟩
theorem HpOk.more {w0 ws w w' : World} {P : Nat} {L : List Cu} (h : HpOk w0 ws P L w) (hb : Below w.heap.size w w') : HpOk w0 ws P L w' := by
  obtain ⟨f, h1, h2, h3⟩ := h.ex
  exact ⟨f, h1.more hb, h2, h3⟩
theorem heap_add {n : Nat} {f : Nat → Cu} {x : Cu} (h : HeapOk ltU n f) : UpOk ltU (n + 1) (addF f n x) n :=
  up_start (heap_ext h fun k hk => by simp [addF]; omega)
set_option maxRecDepth 100000 in
set_option maxHeartbeats 16000000 in
theorem hpush_u (w0 ws : World) (P n : Nat) (f : Nat → Cu) (x : Cu) (w : World) (h : HeapSt w0 ws P n f w) (ho : HeapOk ltU n f) (hx : CuOk w0 x) (hn : n + 1 ≤ 2000000) :
    Calls Try.prog 33 #[hpI P, ifcU x] w (UpPost w0 ws P (n + 1) (addF f n x)) := by
  have HC := Lib.hid (push_u w0 ws P n f x w h hx hn)
  have HU := Lib.hid (heap_add (x := x) ho)
  have nl := n_len ⟨P, 0, none⟩
  have np := n_push ⟨P, 0, none⟩
  have mp := m_push ⟨P, 0, none⟩
  obtain ⟨v, hv⟩ : ∃ v, v = ifcU x := ⟨_, rfl⟩
  rw [← hv] at HC ⊢
  clear h ho hx hv
  unfold hpI
  go_enter Try.func33, Try.ntmps33
  go_upto_region 1 with (go_at_call 81; refine HC.out.mono ?_; rintro e w2 ⟨rfl, hb⟩; have HB := Lib.hid hb; clear hb)
  obtain ⟨g, cap, hP, hrow⟩ := heap_row' HB.out (by omega)
  have ml := m_len P _ w2 (show w2.cell? ⟨P, 0, none⟩ = some (.slice (some ⟨g, 0, none⟩) (n + 1) cap) by rw [hP.cell 0]; rfl)
  have HL := Lib.hid (len_u (some ⟨g, 0, none⟩) (n + 1) cap w2)
  have HUP := Lib.hid (up_u w0 ws P (n + 1) n _ w2 HB.out HU.out (by omega))
  have hl : ((n : Int) + 1) - 1 = (n : Int) := by omega
  unfold hpI at HUP
  clear hP hrow
  go_wp2_with (first
    | (go_at_call 34; refine HL.out.mono ?_; rintro e w3 ⟨rfl, rfl⟩)
    | (go_at_call 51; refine HUP.out.mono ?_; rintro e w4 ⟨rfl, hb⟩; have HB4 := Lib.hid hb; clear hb))
  go_end0
  exact ⟨rfl, HB4.out⟩
/-- The least comes out; the rest is a heap. -/
def HPopPost (w0 ws : World) (P n : Nat) (f : Nat → Cu) (e : Ending) (w' : World) : Prop := e = .returned (ifcU (f 0)) ∧ ∃ f', HeapSt w0 ws P n f' w' ∧ HeapOk ltU n f' ∧ (seqF f' n ++ [f 0]).Perm (seqF f (n + 1))
set_option maxRecDepth 100000 in
set_option maxHeartbeats 16000000 in
theorem hpop_u (w0 ws : World) (P n : Nat) (f : Nat → Cu) (w : World) (h : HeapSt w0 ws P (n + 1) f w) (ho : HeapOk ltU (n + 1) f) : Calls Try.prog 35 #[hpI P] w (HPopPost w0 ws P n f) := by
  have hfew := h.few
  obtain ⟨g, cap, hP, hrow⟩ := heap_row' h (by omega)
  have hpc : w.cell? ⟨P, 0, none⟩ = some (.slice (some ⟨g, 0, none⟩) (n + 1) cap) := by rw [hP.cell 0]; rfl
  have ml := m_len P _ w hpc
  have ms := m_swap P _ w hpc
  have nl := n_len ⟨P, 0, none⟩
  have np := n_pop ⟨P, 0, none⟩
  have ns := n_swap ⟨P, 0, none⟩
  have mp := m_pop ⟨P, 0, none⟩
  have HL := Lib.hid (len_u (some ⟨g, 0, none⟩) (n + 1) cap w)
  have HS := Lib.hid (swap_h h hP hrow (show 0 < n + 1 by omega) (show n < n + 1 by omega))
  have HD := Lib.hid (down_start ho)
  have hl : ((n : Int) + 1) - 1 = (n : Int) := by omega
  clear h ho hP hrow hpc
  unfold hpI
  go_enter Try.func35, Try.ntmps35
  go_upto_region 3 with (first
    | (go_at_call 34; refine HL.out.mono ?_; rintro e w3 ⟨rfl, rfl⟩)
    | (go_at_call 82; refine HS.out.mono ?_; rintro e w4 ⟨rfl, hb⟩; have HB4 := Lib.hid hb; clear hb))
  have HDN := Lib.hid (down_u w0 ws P (n + 1) n 0 _ w4 HB4.out HD.out (by omega) (by omega))
  unfold hpI at HDN
  go_upto_region 4 with (go_at_call 52; refine HDN.out.mono ?_; rintro e w5 ⟨b, rfl, f5, hb, hk⟩; have HB5 := Lib.hid hb; have HK5 := Lib.hid hk; clear hb hk)
  have HPP := Lib.hid (pop_u w0 ws P n f5 w5 HB5.out.st)
  go_wp2_with (go_at_call 80; refine HPP.out.mono ?_; rintro e w6 ⟨rfl, hb⟩; have HB6 := Lib.hid hb; clear hb)
  go_ret
  have he : f5 n = f 0 := by rw [HB5.out.rest n (Nat.le_refl _), swap_r]
  refine ⟨by rw [he]; rfl, f5, HB6.out, HK5.out, ?_⟩
  have h1 := (HB5.out.perm.append_right [f 0]).trans (show (seqF (swapF f 0 n) n ++ [f 0]).Perm (seqF (swapF f 0 n) (n + 1)) from by rw [seqF_succ, swap_r])
  exact h1.trans (swap_perm (by omega) (by omega))
end Go.Proofs.Ytbccjkjibffbkaa
namespace Go.Proofs.Ytbccjkjibffbkaa
open Go.RowKit Go.Shelf
set_option linter.unusedSimpArgs false
set_option linter.unusedVariables false
/-- Nobody but the heap itself touches its two kinds of blocks. -/
def KT (n₀ : Nat) (W W' : World) : Prop := Below n₀ W W' ∧ ∀ i cs t, (t = 60 ∨ t = 63) → Blk W i t cs → Blk W' i t cs
theorem KT.refl (n₀ : Nat) (W : World) : KT n₀ W W := ⟨Below.refl _ _, fun _ _ _ _ h => h⟩
theorem KT.trans {n₀ : Nat} {A B C : World} (h : KT n₀ A B) (k : KT n₀ B C) : KT n₀ A C := ⟨h.1.trans k.1, fun i cs t ht hb => k.2 i cs t ht (h.2 i cs t ht hb)⟩
theorem KT.below {n₀ : Nat} {A B : World} (h : Below A.heap.size A B) (hn : n₀ ≤ A.heap.size) : KT n₀ A B := ⟨h.mono hn, fun i cs t _ hb => (h.block _ hb.lt).trans hb⟩
theorem HeapSt.kept {w0 ws w w' : World} {P n : Nat} {f : Nat → Cu} (h : HeapSt w0 ws P n f w) (hk : KT w0.heap.size w w') : HeapSt w0 w' P n f w' := by
  obtain ⟨v, h1, h2⟩ := h.own
  refine { h with bel := h.bel.trans hk.1, own := ⟨v, hk.2 _ _ _ (.inl rfl) h1, ?_⟩, keep := KO.refl _ }
  refine ⟨h2.1, ?_⟩
  rcases h2.2 with h3 | ⟨g, cap, cur, rfl, hb, hh, rest⟩
  · exact .inl h3
  · exact .inr ⟨g, cap, cur, rfl, hb, hk.2 g cur 63 (.inr rfl) hh, rest⟩
theorem HeapSt.rebase {w0 ws w : World} {P n : Nat} {f : Nat → Cu} (h : HeapSt w0 ws P n f w) : HeapSt w0 w P n f w := { h with keep := KO.refl _ }
abbrev sF : RZ → RV := Prod.snd
/-- What has come out, and what is left of each list. -/
structure MgSt (R0 R : List (List RZ)) (pre : List RZ) : Prop where
  srt : ∀ r ∈ R, SortedF sF r
  psort : SortedF sF pre
  low : ∀ x ∈ pre, ∀ r ∈ R, ∀ y ∈ r, cmpV x.2 y.2 ≤ 0
  same : SameF sF R0.flatten (pre ++ R.flatten)
theorem MgSt.start {R : List (List RZ)} (h : ∀ r ∈ R, SortedF sF r) : MgSt R R [] := ⟨h, List.Pairwise.nil, (fun _ hx => absurd hx List.not_mem_nil), SameF.refl _⟩
theorem MgSt.done {R0 R : List (List RZ)} {pre : List RZ} (h : MgSt R0 R pre) (he : ∀ r ∈ R, r = []) : SortedF sF pre ∧ SameF sF R0.flatten pre := by
  refine ⟨h.psort, ?_⟩
  have e : R.flatten = [] := List.flatten_eq_nil_iff.2 he
  have := h.same
  rw [e, List.append_nil] at this
  exact this
theorem MgSt.step {R0 A B : List (List RZ)} {z : RZ} {T pre : List RZ} (h : MgSt R0 (A ++ (z :: T) :: B) pre)
    (hA : ∀ r ∈ A, ∀ y U, r = y :: U → cmpV z.2 y.2 < 0) (hB : ∀ r ∈ B, ∀ y U, r = y :: U → cmpV z.2 y.2 ≤ 0) : MgSt R0 (A ++ T :: B) (pre ++ [z]) := by
  have hz := h.srt (z :: T) (by simp)
  have hzT : ∀ y ∈ T, cmpV z.2 y.2 ≤ 0 := fun y hy => (List.pairwise_cons.1 hz).1 y hy
  have hA' : ∀ r ∈ A, ∀ y ∈ r, cmpV z.2 y.2 < 0 := fun r hr y hy => by
    cases r with
    | nil => cases hy
    | cons a U =>
      have h1 := hA _ hr a U rfl
      rcases List.mem_cons.1 hy with rfl | hy
      · exact h1
      · exact cmpV_lt_le h1 ((List.pairwise_cons.1 (h.srt _ (by simp [hr]))).1 y hy)
  have hB' : ∀ r ∈ B, ∀ y ∈ r, cmpV z.2 y.2 ≤ 0 := fun r hr y hy => by
    cases r with
    | nil => cases hy
    | cons a U =>
      have h1 := hB _ hr a U rfl
      rcases List.mem_cons.1 hy with rfl | hy
      · exact h1
      · exact cmpV_le_tr h1 ((List.pairwise_cons.1 (h.srt _ (by simp [hr]))).1 y hy)
  refine ⟨fun r hr => ?_, ?_, fun x hx r hr y hy => ?_, ?_⟩
  · rcases List.mem_append.1 hr with hr | hr
    · exact h.srt r (by simp [hr])
    · rcases List.mem_cons.1 hr with rfl | hr
      · exact (List.pairwise_cons.1 hz).2
      · exact h.srt r (by simp [hr])
  · refine List.pairwise_append.2 ⟨h.psort, List.pairwise_singleton _ _, fun x hx y hy => ?_⟩
    obtain rfl := List.mem_singleton.1 hy
    exact h.low x hx (y :: T) (by simp) y (by simp)
  · rcases List.mem_append.1 hx with hx | hx
    · rcases List.mem_append.1 hr with hr | hr
      · exact h.low x hx r (by simp [hr]) y hy
      · rcases List.mem_cons.1 hr with rfl | hr
        · exact h.low x hx (z :: r) (by simp) y (by simp [hy])
        · exact h.low x hx r (by simp [hr]) y hy
    · obtain rfl := List.mem_singleton.1 hx
      rcases List.mem_append.1 hr with hr | hr
      · have := hA' r hr y hy; omega
      · rcases List.mem_cons.1 hr with rfl | hr
        · exact hzT y hy
        · exact hB' r hr y hy
  · refine h.same.trans ?_
    have e1 : pre ++ (A ++ (z :: T) :: B).flatten = pre ++ ((A.flatten ++ [z]) ++ (T ++ B.flatten)) := by simp
    have e2 : pre ++ [z] ++ (A ++ T :: B).flatten = pre ++ (([z] ++ A.flatten) ++ (T ++ B.flatten)) := by simp
    rw [e1, e2]
    refine SameF.app (SameF.refl _) (SameF.app (SameF.swap fun y hy x hx => ?_) (SameF.refl _))
    obtain rfl := List.mem_singleton.1 hy
    obtain ⟨r, hr, hx⟩ := List.mem_flatten.1 hx
    exact hA' r hr x hx
end Go.Proofs.Ytbccjkjibffbkaa
namespace Go.Proofs.Ytbccjkjibffbkaa
open Go.RowKit Go.Shelf
set_option linter.unusedSimpArgs false
set_option linter.unusedVariables false
structure CurSt (R : List (List RZ)) (C : List Cu) : Prop where
  at_ : ∀ c ∈ C, R[c.id]? = some c.Z ∧ c.Z ≠ []
  all : ∀ i r, R[i]? = some r → r ≠ [] → ∃ c ∈ C, c.id = i
  one : (C.map Cu.id).Nodup
theorem CurSt.perm {R : List (List RZ)} {C D : List Cu} (h : CurSt R C) (hp : C.Perm D) : CurSt R D :=
  ⟨fun c hc => h.at_ c (hp.mem_iff.2 hc), fun i r h1 h2 => by
    obtain ⟨c, hc, e⟩ := h.all i r h1 h2
    exact ⟨c, hp.mem_iff.1 hc, e⟩, (hp.map Cu.id).nodup_iff.1 h.one⟩
theorem get_ne {α : Type} (A B : List α) (a b : α) {k : Nat} (h : k ≠ A.length) : (A ++ a :: B)[k]? = (A ++ b :: B)[k]? := by
  rcases Nat.lt_or_gt_of_ne h with h | h
  · rw [List.getElem?_append_left h, List.getElem?_append_left h]
  · obtain ⟨m, rfl⟩ : ∃ m, k = A.length + (m + 1) := ⟨k - A.length - 1, by omega⟩
    rw [List.getElem?_append_right (by omega), List.getElem?_append_right (by omega)]
    have e : A.length + (m + 1) - A.length = m + 1 := by omega
    rw [e]; rfl
theorem get_at {α : Type} (A B : List α) (a : α) : (A ++ a :: B)[A.length]? = some a := by
  rw [List.getElem?_append_right (Nat.le_refl _), Nat.sub_self]; rfl
theorem low_of {c x : Cu} {y z : RZ} {U T : List RZ} (hc : c.Z = y :: U) (hx : x.Z = z :: T) (h : ltU c x = false) : cmpV z.2 y.2 ≤ 0 ∧ (c.id < x.id → cmpV z.2 y.2 < 0) := by
  have h1 : c.hd = y := by unfold Cu.hd; rw [hc]; rfl
  have h2 : x.hd = z := by unfold Cu.hd; rw [hx]; rfl
  unfold ltU cmpU orI at h
  rw [h1, h2] at h
  have n := cmpV_neg z.2 y.2
  have hh : ¬ ((if cmpV y.2 z.2 = 0 then cmpI (c.id : Int) x.id else cmpV y.2 z.2) < 0) := by simpa using h
  by_cases e : cmpV y.2 z.2 = 0
  · rw [if_pos e, cmpI_lt] at hh
    exact ⟨by omega, fun hl => by omega⟩
  · rw [if_neg e] at hh
    exact ⟨by omega, fun _ => by omega⟩
theorem CurSt.split {R : List (List RZ)} {C : List Cu} {x : Cu} {z : RZ} {T : List RZ} (h : CurSt R (x :: C)) (hz : x.Z = z :: T) (hm : ∀ c ∈ C, ltU c x = false) :
    ∃ A B, R = A ++ (z :: T) :: B ∧ A.length = x.id ∧ (∀ r ∈ A, ∀ y U, r = y :: U → cmpV z.2 y.2 < 0) ∧ (∀ r ∈ B, ∀ y U, r = y :: U → cmpV z.2 y.2 ≤ 0) := by
  obtain ⟨h1, _⟩ := h.at_ x (by simp)
  rw [hz] at h1
  obtain ⟨hlt, he⟩ := List.getElem?_eq_some_iff.1 h1
  obtain ⟨A, B, e, hA⟩ : ∃ A B, R = A ++ (z :: T) :: B ∧ A.length = x.id := by
    refine ⟨R.take x.id, R.drop (x.id + 1), ?_, by rw [List.length_take]; omega⟩
    rw [← he, ← List.drop_eq_getElem_cons hlt, List.take_append_drop]
  have key : ∀ j r y U, j ≠ x.id → R[j]? = some r → r = y :: U → cmpV z.2 y.2 ≤ 0 ∧ (j < x.id → cmpV z.2 y.2 < 0) := fun j r y U hj hr he => by
    obtain ⟨c, hc, rfl⟩ := h.all j r hr (by rw [he]; exact List.cons_ne_nil _ _)
    have hcC : c ∈ C := by
      rcases List.mem_cons.1 hc with rfl | hc
      · exact absurd rfl hj
      · exact hc
    have h2 := (h.at_ c hc).1
    rw [hr] at h2
    have h3 : c.Z = y :: U := by rw [← he]; exact (Option.some.inj h2).symm
    exact low_of h3 hz (hm c hcC)
  refine ⟨A, B, e, hA, fun r hr y U hy => ?_, fun r hr y U hy => ?_⟩
  · obtain ⟨j, hj⟩ := List.mem_iff_getElem?.1 hr
    obtain ⟨hjl, _⟩ := List.getElem?_eq_some_iff.1 hj
    exact (key j r y U (by omega) (by rw [e, List.getElem?_append_left hjl]; exact hj) hy).2 (by omega)
  · obtain ⟨j, hj⟩ := List.mem_iff_getElem?.1 hr
    refine (key (A.length + (j + 1)) r y U (by omega) ?_ hy).1
    rw [e, List.getElem?_append_right (by omega)]
    have e2 : A.length + (j + 1) - A.length = j + 1 := by omega
    rw [e2]
    exact hj
theorem CurSt.next {A B : List (List RZ)} {C : List Cu} {x : Cu} {z : RZ} {T : List RZ} (h : CurSt (A ++ (z :: T) :: B) (x :: C)) (hi : A.length = x.id) (hT : T = []) : CurSt (A ++ T :: B) C := by
  have ho := List.nodup_cons.1 h.one
  have hne : ∀ c ∈ C, c.id ≠ A.length := fun c hc e => ho.1 (by rw [← hi, ← e]; exact List.mem_map_of_mem hc)
  refine ⟨fun c hc => ?_, fun i r h1 h2 => ?_, ho.2⟩
  · rw [get_ne A B T (z :: T) (hne c hc)]
    exact h.at_ c (List.mem_cons_of_mem _ hc)
  · by_cases e : i = A.length
    · subst e
      rw [get_at] at h1
      exact absurd ((Option.some.inj h1).symm.trans hT) h2
    · rw [get_ne A B T (z :: T) e] at h1
      obtain ⟨c, hc, rfl⟩ := h.all i r h1 h2
      rcases List.mem_cons.1 hc with rfl | hc
      · exact absurd hi.symm e
      · exact ⟨c, hc, rfl⟩
theorem CurSt.again {A B : List (List RZ)} {C : List Cu} {x x' : Cu} {z : RZ} {T : List RZ} (h : CurSt (A ++ (z :: T) :: B) (x :: C)) (hi : A.length = x.id) (hT : T ≠ []) (h1 : x'.id = x.id) (h2 : x'.Z = T) : CurSt (A ++ T :: B) (x' :: C) := by
  have ho := List.nodup_cons.1 h.one
  have hne : ∀ c ∈ C, c.id ≠ A.length := fun c hc e => ho.1 (by rw [← hi, ← e]; exact List.mem_map_of_mem hc)
  refine ⟨fun c hc => ?_, fun i r h3 h4 => ?_, ?_⟩
  · rcases List.mem_cons.1 hc with rfl | hc
    · rw [h1, ← hi, get_at, h2]; exact ⟨rfl, hT⟩
    · rw [get_ne A B T (z :: T) (hne c hc)]
      exact h.at_ c (List.mem_cons_of_mem _ hc)
  · by_cases e : i = A.length
    · exact ⟨x', by simp, by rw [h1, e, hi]⟩
    · rw [get_ne A B T (z :: T) e] at h3
      obtain ⟨c, hc, rfl⟩ := h.all i r h3 h4
      rcases List.mem_cons.1 hc with rfl | hc
      · exact absurd hi.symm e
      · exact ⟨c, List.mem_cons_of_mem _ hc, rfl⟩
  · rw [List.map_cons, h1]
    exact h.one
theorem CurSt.none {R : List (List RZ)} (h : CurSt R []) : ∀ r ∈ R, r = [] := fun r hr => by
  obtain ⟨j, hj⟩ := List.mem_iff_getElem?.1 hr
  by_cases e : r = []
  · exact e
  · obtain ⟨c, hc, _⟩ := h.all j r hj e
    cases hc
end Go.Proofs.Ytbccjkjibffbkaa
namespace Go.Proofs.Ytbccjkjibffbkaa
open Go.RowKit Go.Shelf
set_option linter.unusedSimpArgs false
set_option linter.unusedVariables false
/-- One of the lists. -/
structure Le where
  A : Option Addr
  n : Nat
  c : Nat
  Z : List RZ
def encE (x : Le) : Value := .slice x.A x.n x.c
structure LeOk (w : World) (x : Le) : Prop where
  rows : RowsC w x.A x.Z
  len : x.n = x.Z.length
  cap : x.n ≤ x.c
  max : x.c ≤ 9223372036854775807
  nil : x.A = none → x.c = 0
theorem LeOk.keep {w w' : World} {x : Le} (h : LeOk w x) (hb : Below w.heap.size w w') : LeOk w' x := { h with rows := h.rows.keep hb }
structure LsIn (w : World) (A : Option Addr) (L : List Le) : Prop where
  row : Row w A (L.map encE)
  ok : ∀ x ∈ L, LeOk w x
  few : L.length ≤ 2000000
theorem LsIn.keep {w w' : World} {A : Option Addr} {L : List Le} (h : LsIn w A L) (hb : Below w.heap.size w w') : LsIn w' A L := ⟨h.row.keep (Nat.le_refl _) hb, fun x hx => (h.ok x hx).keep hb, h.few⟩
theorem LsIn.at {w : World} {A : Option Addr} {L : List Le} {k : Nat} (h : LsIn w A L) (hk : k < L.length) : ∃ b off, A = some ⟨b, off, none⟩ ∧ w.cell? ⟨b, off + k, none⟩ = some (.slice L[k].A L[k].n L[k].c) ∧ LeOk w L[k] := by
  rcases h.row with h0 | ⟨b, off, rfl, hc⟩
  · have : (L.map encE).length = 0 := by rw [h0]; rfl
    rw [List.length_map] at this; omega
  · refine ⟨b, off, rfl, hc k _ ?_, h.ok _ (List.getElem_mem _)⟩
    rw [List.getElem?_map, List.getElem?_eq_getElem hk]; rfl
/-- Is a list sorted, none of a key twice? -/
def SrtD (Z : List RZ) : Prop := ∀ i (h : i + 1 < (Z.map Prod.snd).length), cmpV (Z.map Prod.snd)[i] (Z.map Prod.snd)[i + 1] < 0
open Classical in
noncomputable def srtB (Z : List RZ) : Bool := decide (SrtD Z)
open Classical in
theorem srtB_iff (Z : List RZ) : srtB Z = true ↔ SrtD Z := by unfold srtB; exact decide_eq_true_iff
theorem srt_one {x : Le} {w : World} (h : LeOk w x) : Calls Try.prog 31 #[.slice x.A x.n x.c] w fun e w' => e = .returned (.bool (srtB x.Z)) ∧ Below w.heap.size w w' :=
  sorted_any x.A x.n x.c _ w h.rows.rowsM (by rw [List.length_map]; exact h.len) (Nat.le_trans h.cap h.max) (srtB x.Z) (srtB_iff x.Z)
noncomputable def allS (L : List Le) : Bool := L.all fun x => srtB x.Z
set_option maxRecDepth 100000 in
set_option maxHeartbeats 16000000 in
theorem allsorted_any (A : Option Addr) (n c : Nat) (L : List Le) (w : World) (h : LsIn w A L) (hn : n = L.length) : Calls Try.prog 16 #[.slice A n c] w fun e w' => e = .returned (.bool (allS L)) ∧ Below w.heap.size w w' := by
  have hfew := h.few
  have HL := Lib.hid h
  have HN := Lib.hid hn
  obtain ⟨r, hr⟩ : ∃ r, r = allS L := ⟨_, rfl⟩
  rw [← hr]
  have HR := Lib.hid hr
  have hn9 : n ≤ 2000000 := by omega
  clear h hn hr
  go_enter Try.func16, Try.ntmps16
  go_upto_region 2 with fail
  go_loopw [7] (fun v7 wr => ∃ k : Nat, k ≤ n ∧ v7 = .int .i64 k ∧ Hid (Below w.heap.size w wr) ∧ Hid (allS (L.take k) = true)) (fun i _ => n - (intOf i).toNat)
  case atStart => exact ⟨0, by omega, rfl, Lib.hid (Below.refl _ _), Lib.hid rfl⟩
  case round =>
    obtain ⟨k, hk, rfl, HB, HA⟩ := hrel
    by_cases hlt : k < n
    · have hkz0 : (0 : Int) ≤ (k : Int) := by omega
      have hkz1 : (k : Int) < (n : Int) := by omega
      have hkz : k < L.length := by have := HN.out; omega
      obtain ⟨b, off, hAe, c0, hok⟩ := (HL.out.keep HB.out).at hkz
      obtain ⟨x, hx⟩ : ∃ x, x = L[k] := ⟨_, rfl⟩
      rw [← hx] at c0 hok
      have HTK := Lib.hid (show allS (L.take (k + 1)) = (allS (L.take k) && srtB x.Z) by
        unfold allS
        rw [take_snoc _ _ hkz, List.all_append, hx]; simp)
      have HC := Lib.hid (srt_one hok)
      obtain ⟨s, hs⟩ : ∃ s, s = srtB x.Z := ⟨_, rfl⟩
      rw [← hs] at HTK HC
      have HX := Lib.hid (show x ∈ L by rw [hx]; exact List.getElem_mem _)
      have HS := Lib.hid hs
      rw [hAe]
      clear hlt hx hok hs hkz
      cases s
      · go_wp2_with (go_at_call 31; refine HC.out.mono ?_; rintro e w2 ⟨rfl, hb⟩; have HB2 := Lib.hid hb; clear hb)
        go_ret
        refine ⟨?_, HB.out.trans (HB2.out.mono HB.out.size)⟩
        have e : r = false := by
          rw [HR.out]
          unfold allS
          exact List.all_eq_false.2 ⟨x, HX.out, by rw [← HS.out]; simp⟩
        rw [e]; rfl
      · go_wp2_with (go_at_call 31; refine HC.out.mono ?_; rintro e w2 ⟨rfl, hb⟩; have HB2 := Lib.hid (HB.out.trans (hb.mono HB.out.size)); clear hb)
        go_roundw
        case rel => exact ⟨k + 1, by omega, by go_num, HB2, Lib.hid (by rw [HTK.out, HA.out]; rfl)⟩
        case measure => simp [intOf]; omega
    · obtain rfl : k = n := by omega
      have hkz1 : ¬ (k : Int) < (k : Int) := by omega
      have HE := Lib.hid (show L.take k = L from List.take_of_length_le (by have := HN.out; omega))
      clear hlt
      go_wp2
      go_ret
      have e : r = true := by rw [HR.out, ← HE.out]; exact HA.out
      exact ⟨by rw [e]; rfl, HB.out⟩
end Go.Proofs.Ytbccjkjibffbkaa
namespace Go.Proofs.Ytbccjkjibffbkaa
open Go.RowKit Go.Shelf
set_option linter.unusedSimpArgs false
set_option linter.unusedVariables false
attribute [local go_sem] Oper.semAt_some
def cuAt (x : Le) (k : Nat) : Cu := ⟨x.A, x.n, x.c, x.Z, k⟩
def cursK (L : List Le) : Nat → List Cu
  | 0 => []
  | k + 1 => match L[k]? with
    | some x => if x.n = 0 then cursK L k else cursK L k ++ [cuAt x k]
    | none => cursK L k
theorem cursK_len (L : List Le) : ∀ k, (cursK L k).length ≤ k := by
  intro k
  induction k with
  | zero => exact Nat.le_refl _
  | succ k ih =>
    unfold cursK
    split
    · split
      · omega
      · rw [List.length_append]; simp; omega
    · omega
theorem cursK_skip {L : List Le} {k : Nat} (h : k < L.length) (h0 : L[k].n = 0) : cursK L (k + 1) = cursK L k := by
  show (match L[k]? with | some x => if x.n = 0 then cursK L k else cursK L k ++ [cuAt x k] | none => cursK L k) = _
  rw [List.getElem?_eq_getElem h]
  exact if_pos h0
theorem cursK_add {L : List Le} {k : Nat} (h : k < L.length) (h0 : ¬ L[k].n = 0) : cursK L (k + 1) = cursK L k ++ [cuAt L[k] k] := by
  show (match L[k]? with | some x => if x.n = 0 then cursK L k else cursK L k ++ [cuAt x k] | none => cursK L k) = _
  rw [List.getElem?_eq_getElem h]
  exact if_neg h0
/-- The heap holds the cursors C. -/
def HpC (w0 ws : World) (P : Nat) (C : List Cu) (w : World) : Prop := ∃ n f, HeapSt w0 ws P n f w ∧ HeapOk ltU n f ∧ (seqF f n).Perm C
theorem HpC.len {w0 ws w : World} {P : Nat} {C : List Cu} (h : HpC w0 ws P C w) : ∃ f, HeapSt w0 ws P C.length f w ∧ HeapOk ltU C.length f ∧ (seqF f C.length).Perm C := by
  obtain ⟨n, f, h1, h2, h3⟩ := h
  have hl := h3.length_eq
  rw [seqF_len] at hl
  subst hl
  exact ⟨f, h1, h2, h3⟩
theorem hpush_c {w0 ws w : World} {P : Nat} {C : List Cu} {x : Cu} (h : HpC w0 ws P C w) (hx : CuOk w0 x) (hn : C.length + 1 ≤ 2000000) :
    Calls Try.prog 33 #[hpI P, ifcU x] w fun e w' => e = .returned (.tuple #[]) ∧ HpC w0 ws P (C ++ [x]) w' := by
  obtain ⟨f, h1, h2, h3⟩ := h.len
  refine (hpush_u w0 ws P C.length f x w h1 h2 hx hn).mono ?_
  rintro e w' ⟨rfl, f', h4, h5⟩
  exact ⟨rfl, _, f', h4.st, h5, h4.perm.trans (by rw [seq_add]; exact h3.append_right _)⟩
theorem hpop_c {w0 ws w : World} {P : Nat} {C : List Cu} (h : HpC w0 ws P C w) (hn : C ≠ []) :
    Calls Try.prog 35 #[hpI P] w fun e w' => ∃ x D, e = .returned (ifcU x) ∧ HpC w0 ws P D w' ∧ C.Perm (x :: D) ∧ CuOk w0 x ∧ ∀ c ∈ D, ltU c x = false := by
  obtain ⟨f, h1, h2, h3⟩ := h.len
  obtain ⟨m, hm⟩ : ∃ m, C.length = m + 1 := ⟨C.length - 1, by have := List.length_pos_iff.2 hn; omega⟩
  rw [hm] at h1 h2 h3
  refine (hpop_u w0 ws P m f w h1 h2).mono ?_
  rintro e w' ⟨rfl, f', h4, h5, h6⟩
  refine ⟨f 0, seqF f' m, rfl, ⟨m, f', h4, h5, List.Perm.refl _⟩, (h3.symm.trans h6.symm).trans List.perm_append_comm, h1.ok 0 (by omega), fun c hc => ?_⟩
  have hc2 : c ∈ seqF f (m + 1) := h6.mem_iff.1 (List.mem_append_left _ hc)
  obtain ⟨k, hk, rfl⟩ := List.mem_map.1 hc2
  exact top_min ltU_ord h2 k (List.mem_range.1 hk)
end Go.Proofs.Ytbccjkjibffbkaa
