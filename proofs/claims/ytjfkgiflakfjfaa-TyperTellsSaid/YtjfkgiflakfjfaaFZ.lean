/- What is used: mathematics, and the walk of TyperUsed (4). -/
import Derived.Test.YtjfkgiflakfjfaaFX
import Derived.Deep.RegionHeld3
namespace Go.Proofs.Ytjfkgiflakfjfaa
open Go.RowKit Go.Maps Go.Lib Go.Shelf
set_option linter.unusedSimpArgs false
set_option linter.unusedVariables false
theorem slice_hi (A : Option Addr) (n c k : Nat) (h : k ≤ c) (h0 : 0 < c) (W : World) : Sem.run Try.prog (Instr.slice 22 (.slice A n c) none (some (.int .i64 (k : Int))) none) W = .ok (.slice A k c) W := by
  have hs : ∀ W, Sem.run Try.prog (Go.sizeOf (Try.prog.elem 22)) W = .ok 1 W := fun _ => by kernel_rfl
  have e : Try.prog.elem 22 = 9 := by kernel_rfl
  rw [run_slice_h W 22 A n c (by rw [e]; exact Try.underlying22) .i64 k (by omega) (by omega), hs]
  have : ¬ c = 0 := by omega
  cases A <;> simp [Result.andThen, sliced, this, Addr.add]
theorem slice_lo (b off n c k : Nat) (o : Nat) (ho : o = if c = k then off else off + k) (h : k ≤ n) (W : World) : Sem.run Try.prog (Instr.slice 22 (.slice (some ⟨b, off, none⟩) n c) (some (.int .i64 (k : Int))) none none) W = .ok (.slice (some ⟨b, o, none⟩) (n - k) (c - k)) W := by
  have hs : ∀ W, Sem.run Try.prog (Go.sizeOf (Try.prog.elem 22)) W = .ok 1 W := fun _ => by kernel_rfl
  have e : Try.prog.elem 22 = 9 := by kernel_rfl
  rw [run_slice_l W 22 (some ⟨b, off, none⟩) n c (by rw [e]; exact Try.underlying22) .i64 k (by omega) (by omega), hs]
  have e2 : (⟨b, off, none⟩ : Addr).add k = ⟨b, off + k, none⟩ := by
    unfold Addr.add; split
    · rename_i h; subst h; rfl
    · rfl
  subst ho
  simp only [Result.andThen, sliced, Int.toNat_natCast, Nat.mul_one, Option.map_some, e2]
  split <;> rfl
theorem chkS_zero {a b c : Bool} (h : chkS a b c = 0) : a = true ∧ b = true ∧ c = true := by
  cases a <;> cases b <;> cases c <;> first | exact ⟨rfl, rfl, rfl⟩ | (exfalso; revert h; decide)
def usedK (q : QZ) : List ByteArray := q.BY ++ q.f.dims
theorem leaves_dims (L : List ByteArray) (f : FT) : f.leaves.all (lfN L) = f.dims.all (inT L) := by
  rw [dims_leaves, List.all_map]; rfl
theorem named_eq (L M : List ByteArray) (q : QZ) : namedS L M q = ((usedK q).all (inT L) && q.T.all (tmN M) && q.H.all (hvN M)) := by
  unfold namedS usedK
  rw [leaves_dims, List.all_append]
theorem inT_used {L K : List ByteArray} {x : ByteArray} (h : x ∈ K) : inT (usedL L K) x = inT L x := by
  rw [Bool.eq_iff_iff, inT_iff, inT_iff]
  unfold usedL
  rw [List.mem_filter, inT_iff]
  exact ⟨fun h => h.1, fun h2 => ⟨h2, h⟩⟩
theorem check_used {L M : List ByteArray} {q : QZ} (h : checkS L M q = 0) : checkS (usedL L (usedK q)) M q = 0 := by
  unfold checkS at h ⊢
  obtain ⟨h1, h2, h3⟩ := chkS_zero h
  rw [named_eq] at h2
  have h4 : namedS (usedL L (usedK q)) M q = true := by
    rw [named_eq]
    rw [← h2]
    congr 2
    rw [Bool.eq_iff_iff, List.all_eq_true, List.all_eq_true]
    exact ⟨fun k x hx => by rw [← inT_used hx]; exact k x hx, fun k x hx => by rw [inT_used hx]; exact k x hx⟩
  rw [h1, h4, h3]; rfl
theorem used_apart {L K : List ByteArray} (h : apartP L) : apartP (usedL L K) := by
  have h1 : L.Pairwise (· ≠ ·) := List.pairwise_iff_getElem.2 fun i j hi hj hij => h i j hij hj
  have h2 : (usedL L K).Pairwise (· ≠ ·) := h1.filter _
  intro i j hij hj
  exact List.pairwise_iff_getElem.1 h2 i j (by omega) hj hij
theorem sum_le {α : Type} (l : List α) (f g : α → Nat) (h : ∀ x ∈ l, f x ≤ g x) : (l.map f).sum ≤ (l.map g).sum := by
  induction l with
  | nil => simp
  | cons y l ih =>
    rw [List.map_cons, List.map_cons, List.sum_cons, List.sum_cons]
    have h1 := h y (List.mem_cons_self ..)
    have h2 := ih fun x hx => h x (List.mem_cons_of_mem _ hx)
    omega
theorem leaves_le : ∀ f : FT, f.leaves.length ≤ f.tot := by
  intro f
  induction f using FT.ind with
  | h f ih =>
    rw [f.leaves_eq, f.tot_eq, List.length_append, List.length_flatten, List.map_map]
    have h1 := sum_le f.ks (List.length ∘ FT.leaves) FT.tot (fun x hx => ih x hx)
    have h2 : (if isLeaf f.op then [f] else []).length ≤ 1 := by split <;> simp
    unfold FT.own
    omega
theorem and1023 (m : Int) : ∃ q : Nat, q ≤ 1023 ∧ bits .and .i64 m 1023 = (q : Int) := by
  refine ⟨(BitVec.ofInt 64 m &&& BitVec.ofInt 64 1023).toNat, ?_, ?_⟩
  · have h : (BitVec.ofInt 64 m &&& BitVec.ofInt 64 1023).toNat ≤ 1023 := by rw [BitVec.toNat_and]; exact Nat.and_le_right
    exact h
  · have h : (BitVec.ofInt 64 m &&& BitVec.ofInt 64 1023).toNat ≤ 1023 := by rw [BitVec.toNat_and]; exact Nat.and_le_right
    show IntKind.i64.wrap ((BitVec.ofInt 64 m &&& BitVec.ofInt 64 1023).toNat : Int) = _
    exact IntWalk.i64_in _ (by omega)
theorem apart_left {L M : List ByteArray} (h : apartP (L ++ M)) : apartP L := fun i j hij hj e => by
  refine h i j hij (by rw [List.length_append]; omega) ?_
  rw [List.getElem_append_left (by omega), List.getElem_append_left hj]
  exact e
theorem check_fewer {L M : List ByteArray} {q : QZ} (h : checkS L M q = 0) (hr : rightP L M) (k : Nat) (hk : k < (usedL L (usedK q)).length) :
    checkS ((usedL L (usedK q)).take k ++ (usedL L (usedK q)).drop (k + 1)) M q = 231 := by
  obtain ⟨U, hU⟩ : ∃ U, U = usedL L (usedK q) := ⟨_, rfl⟩
  have hap : apartP U := by rw [hU]; exact used_apart (apart_left hr.2.2.2.2)
  rw [← hU] at hk ⊢
  have hmem : U[k] ∈ usedK q := by
    have h1 : U[k] ∈ usedL L (usedK q) := by rw [← hU]; exact List.getElem_mem _
    unfold usedL at h1
    exact inT_iff.1 (List.mem_filter.1 h1).2
  have hno : inT (U.take k ++ U.drop (k + 1)) U[k] = false := by
    rw [Bool.eq_false_iff]
    intro e
    rw [inT_iff, List.mem_append] at e
    rcases e with e | e
    · obtain ⟨j, hj, e2⟩ := List.getElem_of_mem e
      rw [List.length_take] at hj
      rw [List.getElem_take] at e2
      exact hap j k (by omega) hk e2
    · obtain ⟨j, hj, e2⟩ := List.getElem_of_mem e
      rw [List.length_drop] at hj
      rw [List.getElem_drop] at e2
      exact hap k (k + 1 + j) (by omega) (by omega) e2.symm
  unfold checkS at h ⊢
  obtain ⟨h1, h2, h3⟩ := chkS_zero h
  have h4 : namedS (U.take k ++ U.drop (k + 1)) M q = false := by
    rw [named_eq, Bool.eq_false_iff]
    intro e
    simp only [Bool.and_eq_true] at e
    have := List.all_eq_true.1 e.1.1 _ hmem
    rw [hno] at this
    cases this
  rw [h1, h4]; rfl
set_option maxRecDepth 100000 in
set_option maxHeartbeats 64000000 in
theorem used_walk (A B : Option Addr) (n c m d : Nat) (L M : List ByteArray) (q : QZ) (i : Int) (w : World) (hL : StrsIn w A n c L) (hM : StrsIn w B m d M) (hq : QIn w q) (hi : -9223372036854775808 ≤ i ∧ i ≤ 9223372036854775807) :
    Calls Try.prog 4 #[.agg #[.slice A n c, .slice B m d], .agg #[.slice q.tA q.tn q.tc, .int .i64 q.frm, .int .i64 q.upto, .int .i64 q.every, .slice q.bA q.bn q.bc, .int .i64 q.f.op, .string q.f.dim, .string q.f.val, .slice q.f.A q.f.n q.f.c, .slice q.hA q.hn q.hc, .int .i64 q.order, .int .i64 q.limit], .int .i64 i] w fun e w' => e = .returned (.bool true) ∧ Below w.heap.size w w' := by
  obtain ⟨w1, hw1⟩ : ∃ w1, w1 = (w.alloc (.cells #[.slice A n c, .slice B m d] 24)).alloc (.cells #[.slice q.tA q.tn q.tc, .int .i64 q.frm, .int .i64 q.upto, .int .i64 q.every, .slice q.bA q.bn q.bc, .int .i64 q.f.op, .string q.f.dim, .string q.f.val, .slice q.f.A q.f.n q.f.c, .slice q.hA q.hn q.hc, .int .i64 q.order, .int .i64 q.limit] 32) := ⟨_, rfl⟩
  have hb1 : Below w.heap.size w w1 := by rw [hw1]; exact bpush (bpush (Below.refl _ _) _) _
  have hSB : Blk w1 w.heap.size 24 #[.slice A n c, .slice B m d] := by
    rw [hw1]; exact (Blk.new w 24 #[.slice A n c, .slice B m d]).below (bpush (Below.refl _ _) _)
  have hQB : Blk w1 (w.heap.size + 1) 32 #[.slice q.tA q.tn q.tc, .int .i64 q.frm, .int .i64 q.upto, .int .i64 q.every, .slice q.bA q.bn q.bc, .int .i64 q.f.op, .string q.f.dim, .string q.f.val, .slice q.f.A q.f.n q.f.c, .slice q.hA q.hn q.hc, .int .i64 q.order, .int .i64 q.limit] := by
    have := Blk.new (w.alloc (.cells #[.slice A n c, .slice B m d] 24)) 32 #[.slice q.tA q.tn q.tc, .int .i64 q.frm, .int .i64 q.upto, .int .i64 q.every, .slice q.bA q.bn q.bc, .int .i64 q.f.op, .string q.f.dim, .string q.f.val, .slice q.f.A q.f.n q.f.c, .slice q.hA q.hn q.hc, .int .i64 q.order, .int .i64 q.limit]
    rw [hw1]; simpa using this
  obtain ⟨S, hSe⟩ : ∃ S, S = w.heap.size := ⟨_, rfl⟩
  obtain ⟨Q, hQe⟩ : ∃ Q, Q = w.heap.size + 1 := ⟨_, rfl⟩
  rw [← hSe] at hSB
  rw [← hQe] at hQB
  have HB1 := Lib.hid hb1
  have HSB := Lib.hid hSB
  have HQB := Lib.hid hQB
  have HW1 := Lib.hid hw1
  have HSE := Lib.hid hSe
  have HQE := Lib.hid hQe
  have HL := Lib.hid (hL.keep (Nat.le_refl _) hb1)
  have HM := Lib.hid (hM.keep (Nat.le_refl _) hb1)
  have HQ := Lib.hid (hq.keep (Nat.le_refl _) hb1)
  have HFT := Lib.hid (fitsQ_any A B n c m d L M q w1 HL.out HM.out HQ.out.by_ HQ.out.f HQ.out.tmax HQ.out.hmax)
  have HAL := Lib.hid (fun W => alive_any W)
  have HCK := Lib.hid (fun W (hW : Below w1.heap.size w1 W) => check_any A B n c m d L M q W (HL.out.keep (Nat.le_refl _) hW) (HM.out.keep (Nat.le_refl _) hW) (HQ.out.keep (Nat.le_refl _) hW))
  obtain ⟨ck, hck⟩ : ∃ x, x = checkS L M q := ⟨_, rfl⟩
  rw [← hck] at HCK
  have HCKE := Lib.hid hck
  obtain ⟨c0, c1, c2, c3, c4, c5, c6, c7, c8, c9, c10, c11⟩ := q_cells hQB
  obtain ⟨s0, s1⟩ := s_cells hSB
  clear hw1 hb1 hSB hQB hL hM hq hSe hQe hck
  go_enter Try.func4, Try.ntmps4
  go_upto_region 1 with fail
  rw [← HW1.out, ← HQE.out, ← HSE.out]
  go_upto_region 2 with (go_at_call 6; refine HFT.out.mono ?_; rintro e w2 ⟨⟨r, rfl, hr⟩, hb⟩; have HR := Lib.hid hr; have HB2 := Lib.hid hb; clear hr hb)
  clear c0 c1 c2 c3 c4 c5 c6 c7 c8 c9 c10 c11 s0 s1
  obtain ⟨c0, c1, c2, c3, c4, c5, c6, c7, c8, c9, c10, c11⟩ := q_cells (HQB.out.below HB2.out)
  obtain ⟨s0, s1⟩ := s_cells (HSB.out.below HB2.out)
  cases r with
  | false =>
    go_wp2_with (go_at_call 7; refine (HAL.out _).mono ?_; rintro e w3 ⟨rfl, hb⟩; have HB3 := Lib.hid (bthen HB2.out hb); clear hb)
    go_ret
    exact ⟨rfl, bthen HB1.out HB3.out⟩
  | true =>
  have HFQ := Lib.hid (HR.out rfl)
  by_cases h0 : ck = 0
  case neg =>
    have h0b : (ck == 0) = false := by simp [h0]
    have h0c : (ck != 0) = true := by simp [h0]
    go_wp2_with (first
      | (go_at_call 7; refine (HAL.out _).mono ?_; rintro e w4 ⟨rfl, hb⟩; have HB4 := Lib.hid (bthen HB3.out hb); clear hb)
      | (go_at_call 8; refine (HCK.out _ HB2.out).mono ?_; rintro e w3 ⟨rfl, hb⟩; have HB3 := Lib.hid (bthen HB2.out hb); clear hb))
    go_ret
    exact ⟨rfl, bthen HB1.out HB4.out⟩
  subst h0
  go_upto_region 4 with (go_at_call 8; refine (HCK.out _ HB2.out).mono ?_; rintro e w3 ⟨rfl, hb⟩; have HB3 := Lib.hid (bthen HB2.out hb); clear hb)
  clear c0 c1 c2 c3 c4 c5 c6 c7 c8 c9 c10 c11 s0 s1
  obtain ⟨c0, c1, c2, c3, c4, c5, c6, c7, c8, c9, c10, c11⟩ := q_cells (HQB.out.below HB3.out)
  obtain ⟨s0, s1⟩ := s_cells (HSB.out.below HB3.out)
  have HUS := Lib.hid (used_any A B n c m d L M q w3 (HL.out.keep (Nat.le_refl _) HB3.out) (HQ.out.keep (Nat.le_refl _) HB3.out) (by have := HFQ.out.fb.1; have := HQ.out.by_.len; omega) (by
    have h1 := leaves_le q.f
    have := HFQ.out.tot
    omega) (by have := HFQ.out.fl.1; have := HL.out.len; omega))
  obtain ⟨U, hU⟩ : ∃ U, U = usedL L (usedK q) := ⟨_, rfl⟩
  have HUS2 := Lib.hid (show Calls Try.prog 11 #[.agg #[.slice A n c, .slice B m d], .agg #[.slice q.tA q.tn q.tc, .int .i64 q.frm, .int .i64 q.upto, .int .i64 q.every, .slice q.bA q.bn q.bc, .int .i64 q.f.op, .string q.f.dim, .string q.f.val, .slice q.f.A q.f.n q.f.c, .slice q.hA q.hn q.hc, .int .i64 q.order, .int .i64 q.limit]] w3 (TextsP w3 U) from by rw [hU]; exact HUS.out)
  have HUU := Lib.hid hU
  have HULL := Lib.hid (show U.length ≤ 20 by rw [hU]; exact Nat.le_trans (List.length_filter_le _ _) HFQ.out.fl.1)
  clear HUS hU
  go_upto_region 5 with (go_at_call 11; refine HUS2.out.mono ?_; rintro e w4 ⟨v4, rfl, ho, hb⟩; have HB4 := Lib.hid (bthen HB3.out hb); have HO4 := Lib.hid ho; obtain ⟨A4, c4', rfl, hr4, hc4, hn4⟩ := own_slice ho; have HR4 := Lib.hid hr4; have HC4 := Lib.hid hc4; have HN4 := Lib.hid hn4; clear ho hb hr4 hc4 hn4)
  clear c0 c1 c2 c3 c4 c5 c6 c7 c8 c9 c10 c11 s0 s1
  obtain ⟨c0, c1, c2, c3, c4, c5, c6, c7, c8, c9, c10, c11⟩ := q_cells (HQB.out.below HB4.out)
  obtain ⟨s0, s1⟩ := s_cells (HSB.out.below HB4.out)
  have HST := Lib.hid (show StrsIn w4 A4 U.length c4' U from ⟨HR4.out, rfl, HC4.out, HN4.out, by have := HULL.out; omega⟩)
  obtain ⟨u, hu⟩ : ∃ u, u = U.length := ⟨_, rfl⟩
  rw [← hu] at HST HULL HC4 HO4 ⊢
  have HU := Lib.hid hu
  have hu20 : u ≤ 20 := HULL.out
  clear hu
  by_cases h0 : u = 0
  case pos =>
    have hnil : U = [] := List.eq_nil_of_length_eq_zero (by rw [← HU.out]; exact h0)
    have h0z : ((u : Nat) : Int) = 0 := by omega
    have HC2 := Lib.hid (fun W (hW : Below w1.heap.size w1 W) => show Calls Try.prog 8 #[.agg #[.slice none 0 0, .slice B m d], .agg #[.slice q.tA q.tn q.tc, .int .i64 q.frm, .int .i64 q.upto, .int .i64 q.every, .slice q.bA q.bn q.bc, .int .i64 q.f.op, .string q.f.dim, .string q.f.val, .slice q.f.A q.f.n q.f.c, .slice q.hA q.hn q.hc, .int .i64 q.order, .int .i64 q.limit]] W (fun e w' => e = .returned (.int .i64 0) ∧ Below W.heap.size W w') from by
      have h := check_any none B 0 0 m d [] M q W ⟨.inl rfl, rfl, Nat.le_refl _, fun _ => rfl, by omega⟩ (HM.out.keep (Nat.le_refl _) hW) (HQ.out.keep (Nat.le_refl _) hW)
      have e := check_used HCKE.out.symm
      rw [← HUU.out, hnil] at e
      rw [e] at h
      exact h)
    clear h0 hnil
    go_wp2_with (first
      | (go_at_call 8; refine (HC2.out _ HB5.out).mono ?_; rintro e w6 ⟨rfl, hb⟩; have HB6 := Lib.hid (bthen HB5.out hb); clear hb)
      | (go_at_call 7; refine (HAL.out _).mono ?_; rintro e w5 ⟨rfl, hb⟩; have HB5 := Lib.hid (bthen HB4.out hb); obtain ⟨d0, d1, d2, d3, d4, d5, d6, d7, d8, d9, d10, d11⟩ := q_cells (HQB.out.below HB5.out); obtain ⟨t0, t1⟩ := s_cells (HSB.out.below HB5.out); clear hb))
    go_ret
    exact ⟨rfl, bthen HB1.out HB6.out⟩
  have h0z : ¬ ((u : Nat) : Int) = 0 := by omega
  have h0y : ((u : Int) == 0) = false := by simp; omega
  have HC2 := Lib.hid (fun W (hW : Below w4.heap.size w4 W) => show Calls Try.prog 8 #[.agg #[.slice A4 u c4', .slice B m d], .agg #[.slice q.tA q.tn q.tc, .int .i64 q.frm, .int .i64 q.upto, .int .i64 q.every, .slice q.bA q.bn q.bc, .int .i64 q.f.op, .string q.f.dim, .string q.f.val, .slice q.f.A q.f.n q.f.c, .slice q.hA q.hn q.hc, .int .i64 q.order, .int .i64 q.limit]] W (fun e w' => e = .returned (.int .i64 0) ∧ Below W.heap.size W w') from by
    have h := check_any A4 B u c4' m d U M q W (HST.out.keep (Nat.le_refl _) hW) (HM.out.keep (Nat.le_refl _) (bthen HB4.out hW)) (HQ.out.keep (Nat.le_refl _) (bthen HB4.out hW))
    have e := check_used HCKE.out.symm
    rw [← HUU.out] at e
    rw [e] at h
    exact h)
  go_upto_region 9 with (go_at_call 8; refine (HC2.out _ (Below.refl _ _)).mono ?_; rintro e w5 ⟨rfl, hb⟩; have HB45 := Lib.hid hb; have HB5 := Lib.hid (bthen HB4.out hb); clear hb)
  clear c0 c1 c2 c3 c4 c5 c6 c7 c8 c9 c10 c11 s0 s1
  obtain ⟨k, hk, hkz⟩ : ∃ k : Nat, k ≤ 1023 ∧ bits .and .i64 i 1023 = (k : Int) := and1023 i
  obtain ⟨j, hj⟩ : ∃ j, j = k % u := ⟨_, rfl⟩
  have hju : j < u := by rw [hj]; exact Nat.mod_lt _ (by omega)
  have hjz : (k : Int) % (u : Int) = (j : Int) := by rw [hj]; omega
  have hjy : (k : Int).tmod (u : Int) = (j : Int) := by rw [Int.tmod_eq_emod_of_nonneg (by omega)]; exact hjz
  have hu1 : (1 : Int) ≤ (u : Int) := by omega
  have hk0 : (0 : Int) ≤ (k : Int) := by omega
  have hk1 : (k : Int) ≤ 1023 := by omega
  clear hj
  go_upto_region 10 with fail
  clear hjz hjy hkz hk0 hk1 hk
  obtain ⟨g4, cap4, hve, hcap4, hrw4⟩ := Row.of_own HO4.out (by omega)
  cases hve
  have hcm : c4' ≤ maxLen := by
    rcases HO4.out.2 with ⟨h1, _⟩ | ⟨g, cap, cur, h1, _, _, _, hm, _⟩
    · cases h1
    · cases h1; exact hm
  have HR5 := Lib.hid (show Row w5 (some ⟨g4, 0, none⟩) (texts U) from hrw4.keep (Nat.le_refl _) HB45.out)
  have hcu : u ≤ c4' := HC4.out
  obtain ⟨o, ho⟩ : ∃ o, o = if c4' = j + 1 then 0 else 0 + (j + 1) := ⟨_, rfl⟩
  have sl1 := slice_hi (some ⟨g4, 0, none⟩) u c4' j (by omega) (by omega)
  have sl2 : ∀ W, Sem.run Try.prog (Instr.slice 22 (.slice (some ⟨g4, 0, none⟩) u c4') (some (.int .i64 ((j : Int) + 1))) none none) W = .ok (.slice (some ⟨g4, o, none⟩) (u - (j + 1)) (c4' - (j + 1))) W := fun W => by
    have := slice_lo g4 0 u c4' (j + 1) o ho (by omega) W
    have ec : ((j + 1 : Nat) : Int) = (j : Int) + 1 := by omega
    rw [ec] at this; exact this
  have HCC := Lib.hid (show Row w5 (some ⟨g4, o, none⟩) (texts (U.drop (j + 1))) from by
    have h := cut_case HR5.out HU.out hcu (j + 1) (by omega)
    rw [ho]
    split
    · rename_i e; rw [if_pos e] at h; exact h
    · rename_i e; rw [if_neg e] at h
      have e2 : (some (⟨g4, 0, none⟩ : Addr)).map (·.add (j + 1)) = some ⟨g4, 0 + (j + 1), none⟩ := by
        simp [Addr.add]
      rw [e2] at h; exact h)
  have HRF := Lib.hid (show Row w5 (some ⟨g4, 0, none⟩) (texts (U.take j)) from HR5.out.front j)
  have HTL := Lib.hid (show j = (U.take j).length by rw [List.length_take, ← HU.out]; omega)
  have HDL := Lib.hid (show u - (j + 1) = (U.drop (j + 1)).length by rw [List.length_drop, ← HU.out])
  have HCF := Lib.hid (fun (A5 : Option Addr) (c5 : Nat) (W : World) (hW : Below w5.heap.size w5 W) (hr : Row W A5 (texts (U.take j ++ U.drop (j + 1)))) (h1 : u - 1 ≤ c5) (h2 : A5 = none → c5 = 0) => show Calls Try.prog 8 #[.agg #[.slice A5 (u - 1) c5, .slice B m d], .agg #[.slice q.tA q.tn q.tc, .int .i64 q.frm, .int .i64 q.upto, .int .i64 q.every, .slice q.bA q.bn q.bc, .int .i64 q.f.op, .string q.f.dim, .string q.f.val, .slice q.f.A q.f.n q.f.c, .slice q.hA q.hn q.hc, .int .i64 q.order, .int .i64 q.limit]] W (fun e w' => e = .returned (.int .i64 231) ∧ Below W.heap.size W w') from by
    have h := check_any A5 B (u - 1) c5 m d (U.take j ++ U.drop (j + 1)) M q W ⟨hr, by rw [List.length_append, ← HTL.out, ← HDL.out]; omega, h1, h2, by omega⟩ (HM.out.keep (Nat.le_refl _) (bthen HB5.out hW)) (HQ.out.keep (Nat.le_refl _) (bthen HB5.out hW))
    have e := check_fewer HCKE.out.symm HFQ.out.right j (by rw [← HUU.out, ← HU.out]; omega)
    rw [← HUU.out] at e
    rw [e] at h
    exact h)
  have jw : IntKind.i64.wrap ((j : Int) + 1) = (j : Int) + 1 := IntWalk.i64_in _ (by omega)
  have j0 : (0 : Int) ≤ (j : Int) := by omega
  have HJU := Lib.hid hju
  have HCU := Lib.hid hcu
  have HU20 := Lib.hid hu20
  clear ho hrw4 hcap4 hju hcu hcm h0 h0z h0y hu1 hu20
  have hj20 : (j : Int) ≤ 20 := by have h1 := HJU.out; have h2 := HU20.out; omega
  go_region_held3 (fun w' => Below w5.heap.size w5 w')
    (first
      | exact below_drewN (Below.refl _ _) 1
      | exact below_drewN (bpush (Below.refl _ _) _) 1
      | exact hbz2
      | exact hbz)
    (first
      | (refine step_append_texts rfl _ _ rfl w5.heap.size (.slice (some ⟨w5.heap.size, 0, none⟩) 0 0) 0 [] rfl (some ⟨g4, 0, none⟩) j c4' (U.take j) rfl ?own ?row HTL.out ?q0 ?qn ?q1 ?q2 ?_
         case own => exact own_dr (own_empty (Nat.le_refl _)) 1
         case row => exact row_dr (HRF.out.keep (Nat.le_refl _) (bpush (Below.refl _ _) _)) 1
         case q0 => have h1 := HJU.out; have h2 := HCU.out; omega
         case qn => intro h; cases h
         case q1 => have h1 := HJU.out; have h2 := HU20.out; omega
         case q2 => simp
         intro v1 w6 ho1 hg1 _
         have hbz : Below w5.heap.size w5 w6 := (below_drewN (bpush (Below.refl _ _) _) 1).trans (grown_below (own_dr (own_empty (Nat.le_refl _)) 1) hg1 (by simp)))
      | (refine step_append_texts rfl _ _ rfl w5.heap.size v1 (0 + j) ([] ++ texts (U.take j)) rfl (some ⟨g4, o, none⟩) (u - (j + 1)) (c4' - (j + 1)) (U.drop (j + 1)) rfl ho1 ?row HDL.out ?q0 ?qn ?q1 ?q2 ?_
         case row => exact HCC.out.keep (Nat.le_refl _) hbz
         case q0 => have h1 := HJU.out; have h2 := HCU.out; omega
         case qn => intro h; cases h
         case q1 => have h1 := HJU.out; have h2 := HU20.out; omega
         case q2 => exact hbz.size
         intro v2 w7 ho2 hg2 _
         have hbz2 : Below w5.heap.size w5 w7 := hbz.trans (grown_below ho1 hg2 hbz.size)))
  obtain ⟨A5, c5, rfl, hr5, hc5, hn5⟩ := own_slice ho2
  have hlen : 0 + j + (u - (j + 1)) = u - 1 := by have h1 := HJU.out; omega
  rw [hlen] at ho2 hc5 ⊢
  have HB7 := Lib.hid hbz2
  have HB17 := Lib.hid (bthen HB5.out hbz2)
  have HCX := Lib.hid (fun W (hW : Below w7.heap.size w7 W) => HCF.out A5 c5 W (bthen HB7.out hW) (by
    have h := hr5.keep (Nat.le_refl _) hW
    rw [List.nil_append, texts_append] at h
    exact h) hc5 hn5)
  clear ho2 hg2 ho1 hg1 hbz hbz2 hr5 hc5 hn5 hlen sl1 sl2 jw j0 hj20
  go_wp2_with (first
    | (go_at_call 8; refine (HCX.out _ HB8.out).mono ?_; rintro e w9 ⟨rfl, hb⟩; have HB9 := Lib.hid (bthen HB8.out hb); clear hb)
    | (go_at_call 7; refine (HAL.out _).mono ?_; rintro e w8 ⟨rfl, hb⟩; have HB8 := Lib.hid hb; obtain ⟨d0, d1, d2, d3, d4, d5, d6, d7, d8, d9, d10, d11⟩ := q_cells (HQB.out.below (bthen HB17.out hb)); obtain ⟨t0, t1⟩ := s_cells (HSB.out.below (bthen HB17.out hb)); clear hb))
  go_ret
  exact ⟨rfl, bthen HB1.out (bthen HB17.out HB9.out)⟩
end Go.Proofs.Ytjfkgiflakfjfaa
