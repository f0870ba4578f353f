/- Charge (11). -/
import Derived.Test.YtmmeekmiildliaaGreatDoorIK
import Derived.Test.YtmmeekmiildliaaGreatDoorIM
namespace Go.Proofs.YtmmeekmiildliaaGreatDoor
open Go.RowKit
set_option linter.unusedSimpArgs false
set_option linter.unusedVariables false
/-- The sizes with a number's size more each, if each fits. -/
def addS : List Int → List Int → Option (List Int)
  | s :: S, x :: X => if s < 0 ∨ 4611686018427387904 - szI x < s then none else (addS S X).map (fun T => (s + szI x) :: T)
  | _, _ => some []
def chgS (k : Int) (S X : List Int) : (Int × List Int) × Int :=
  match addS S X with
  | none => ((0, []), 182)
  | some T => ((k + 1, T), 0)
theorem put_at (acc S : List Int) (k : Nat) (h : acc.length = k) (hk : k < S.length) : (intsV (acc ++ S.drop k))[k]? = some (.int .i64 S[k]) := by
  rw [List.getElem?_map, List.getElem?_append_right (by omega), h, Nat.sub_self, List.drop_eq_getElem_cons hk]; rfl
theorem put_step (acc S : List Int) (k : Nat) (h : acc.length = k) (hk : k < S.length) (z : Int) : (intsV (acc ++ S.drop k)).set k (.int .i64 z) = intsV ((acc ++ [z]) ++ S.drop (k + 1)) := by
  subst h
  show (List.map _ _).set _ _ = List.map _ _
  rw [List.drop_eq_getElem_cons hk, List.map_append, List.map_cons, List.set_append_right _ _ (by simp), List.length_map, Nat.sub_self, List.set_cons_zero, List.map_append, List.map_append, List.append_assoc]
  rfl
/-- What Charge answers. -/
def chg (k : Int) (S X : List Int) (m : Nat) (v : Int) : (Int × List Int) × Int :=
  if v = 0 then (if S.length ≠ m ∨ k < 0 ∨ 1048576 ≤ k then ((0, []), 182) else chgS k S X) else ((0, []), v)
/-- What is added up behind k rounds. -/
structure AddSt (S X : List Int) (k : Nat) (acc : List Int) : Prop where
  len : acc.length = k
  eq : addS S X = (addS (S.drop k) (X.drop k)).map (acc ++ ·)
theorem AddSt.start (S X : List Int) : AddSt S X 0 [] := ⟨rfl, by simp⟩
theorem AddSt.bad {S X : List Int} {k : Nat} {acc : List Int} (h : AddSt S X k acc) (hk : k < S.length) (hx : k < X.length) (hb : S[k] < 0 ∨ 4611686018427387904 - szI X[k] < S[k]) : addS S X = none := by
  rw [h.eq, List.drop_eq_getElem_cons hk, List.drop_eq_getElem_cons hx, addS, if_pos hb]; rfl
theorem AddSt.step {S X : List Int} {k : Nat} {acc : List Int} (h : AddSt S X k acc) (hk : k < S.length) (hx : k < X.length) (hb : ¬ (S[k] < 0 ∨ 4611686018427387904 - szI X[k] < S[k])) : AddSt S X (k + 1) (acc ++ [S[k] + szI X[k]]) := by
  refine ⟨by simp [h.len], ?_⟩
  rw [h.eq, List.drop_eq_getElem_cons hk, List.drop_eq_getElem_cons hx, addS, if_neg hb]
  cases addS (S.drop (k + 1)) (X.drop (k + 1)) <;> simp
theorem AddSt.fin {S X : List Int} {k : Nat} {acc : List Int} (h : AddSt S X k acc) (hk : k = S.length) : addS S X = some acc := by
  rw [h.eq, hk, List.drop_length, addS]; simp
  intro _ _ _ _ h; cases h
/-- A budget and an error. -/
def ChgPost (w : World) (r : (Int × List Int) × Int) (e : Ending) (w' : World) : Prop :=
  ∃ (A : Option Addr) (n c : Nat), e = .returned (.tuple #[.agg #[.int .i64 r.1.1, .slice A n c], .int .i64 r.2]) ∧ n = r.1.2.length ∧ n ≤ c ∧ (A = none → c = 0) ∧ Row w' A (intsV r.1.2) ∧ Below w.heap.size w w'
theorem ChgPost.none {w w' : World} {r : (Int × List Int) × Int} {v : Int} (h : r = ((0, []), v)) (hb : Below w.heap.size w w') : ChgPost w r (.returned (.tuple #[.agg #[.int .i64 0, .slice none 0 0], .int .i64 v])) w' := by
  rw [h]
  exact ⟨Option.none, 0, 0, rfl, rfl, Nat.le_refl _, fun _ => rfl, .inl rfl, hb⟩
/-- The same, and the list is one's own. -/
def ChgOwn (w : World) (r : (Int × List Int) × Int) (e : Ending) (w' : World) : Prop :=
  ∃ (A : Option Addr) (n c : Nat), e = .returned (.tuple #[.agg #[.int .i64 r.1.1, .slice A n c], .int .i64 r.2]) ∧ n = r.1.2.length ∧ n ≤ c ∧ (A = none → c = 0) ∧ Row w' A (intsV r.1.2) ∧ Below w.heap.size w w' ∧ w'.ownsRow w.heap.size 3 1 (.slice A n c) n (intsV r.1.2)
theorem ChgOwn.none {w w' : World} {r : (Int × List Int) × Int} {v : Int} (h : r = ((0, []), v)) (hb : Below w.heap.size w w') : ChgOwn w r (.returned (.tuple #[.agg #[.int .i64 0, .slice none 0 0], .int .i64 v])) w' := by
  rw [h]
  exact ⟨Option.none, 0, 0, rfl, rfl, Nat.le_refl _, fun _ => rfl, .inl rfl, hb, World.ownsRow_nil _ _ _ _⟩
theorem ChgOwn.post {w w' : World} {r : (Int × List Int) × Int} {e : Ending} (h : ChgOwn w r e w') : ChgPost w r e w' := by
  obtain ⟨A, n, c, h1, h2, h3, h4, h5, h6, _⟩ := h
  exact ⟨A, n, c, h1, h2, h3, h4, h5, h6⟩
theorem two_set {W : World} {g : Nat} {t : TypeId} {a b : Value} (h : Blk W g t #[a, b]) (u v : Value) : ((W.setCell ⟨g, 0, none⟩ u).setCell ⟨g, 1, none⟩ v).cell? ⟨g, 0, none⟩ = some u ∧ ((W.setCell ⟨g, 0, none⟩ u).setCell ⟨g, 1, none⟩ v).cell? ⟨g, 1, none⟩ = some v := by
  have h2 := (h.set_ 0 u).set_ 1 v
  simp at h2
  exact ⟨h2.cell 0, h2.cell 1⟩
/-- A cell of an own row of numbers. -/
theorem own_at1 {W : World} {B : Nat} {D : Option Addr} {n c : Nat} {xs : List Value} (h : W.ownsRow B 3 1 (.slice D n c) n xs) {i : Nat} (hi : i < n) : ∃ b, D = some ⟨b, 0, none⟩ ∧ B ≤ b ∧ W.cell? ⟨b, i, none⟩ = xs[i]? ∧ W.frozen? ⟨b, i, none⟩ = false := by
  rcases h.2 with ⟨_, h0⟩ | ⟨g, cap, cur, e, hg, hb, h1, h2, h3, h4⟩
  · omega
  · cases e
    have hk : Blk W g 3 cur := hb
    refine ⟨g, rfl, hg, ?_, hk.frozen _⟩
    rw [hk.cell, ← h4, List.getElem?_take, if_pos (by omega), Array.getElem?_toList]
theorem own_put {W : World} {B b : Nat} {n c : Nat} {xs : List Value} (h : W.ownsRow B 3 1 (.slice (some ⟨b, 0, none⟩) n c) n xs) (i : Nat) (u : Value) : (W.setCell ⟨b, i, none⟩ u).ownsRow B 3 1 (.slice (some ⟨b, 0, none⟩) n c) n (xs.set i u) := by
  rcases h.2 with ⟨e, _⟩ | ⟨g, cap, cur, e, hg, hb, h1, h2, h3, h4⟩
  · cases e
  · cases e
    have hk : Blk W b 3 cur := hb
    refine ⟨by rw [List.length_set]; exact h.1, .inr ⟨b, c, cur.setIfInBounds i u, rfl, hg, hk.set_ i u, h1, h2, by simp [h3], ?_⟩⟩
    rw [Array.toList_setIfInBounds, List.take_set, h4]
set_option maxRecDepth 100000 in
set_option maxHeartbeats 16000000 in
theorem charge_own (A E SA EA F : Option Addr) (n c m d sn sc p q x y : Nat) (k t : Int) (L M D : List ByteArray) (X S : List Int) (w : World) (hS : Row w SA (intsV S)) (hE : Row w EA (texts D)) (hF : Row w F (intsV X)) (hn : n = L.length) (hm : m = M.length) (hsn : sn = S.length) (hp : p = D.length) (hx : x = X.length)
    (hD : ∀ s ∈ D, s.size ≤ 9223372036854775807) (hss : sn ≤ sc) (hsa : SA = none → sc = 0) (hp2 : p ≤ 1000000) (hx2 : x ≤ 1000000) (hsn2 : sn ≤ 1000000) (hm2 : m ≤ 1000000) (v : Int) (hv : CheckIs L M D X t v) :
    Calls Tryz.prog 11 #[.agg #[.slice A n c, .slice E m d], .agg #[.int .i64 k, .slice SA sn sc], .agg #[.int .i64 t, .slice EA p q, .slice F x y]] w (ChgOwn w (chg k S X m v)) := by
  obtain ⟨W0, hW0⟩ : ∃ W0, W0 = (((w.alloc (.cells #[.slice A n c, .slice E m d] 24)).alloc (.cells #[.int .i64 k, .slice SA sn sc] 27)).alloc (.cells #[.int .i64 t, .slice EA p q, .slice F x y] 29)).alloc (.cells #[.int .i64 0, .slice none 0 0] 27) := ⟨_, rfl⟩
  have hb0 : Below w.heap.size w W0 := by rw [hW0]; exact bpush (bpush (bpush (bpush (Below.refl _ _) _) _) _) _
  have hz0 : W0.heap.size = w.heap.size + 4 := by rw [hW0]; simp
  have x1 : W0.cell? ⟨w.heap.size, 1, none⟩ = some (.slice E m d) := by rw [hW0]; exact cell_on (bpush (bpush (bpush (Below.refl _ _) _) _) _) (cell_made rfl rfl)
  have y0 : W0.cell? ⟨w.heap.size + 1, 0, none⟩ = some (.int .i64 k) := by rw [hW0]; exact cell_on (bpush (bpush (Below.refl _ _) _) _) (cell_made (by simp) rfl)
  have y1 : W0.cell? ⟨w.heap.size + 1, 1, none⟩ = some (.slice SA sn sc) := by rw [hW0]; exact cell_on (bpush (bpush (Below.refl _ _) _) _) (cell_made (by simp) rfl)
  have z2 : W0.cell? ⟨w.heap.size + 1 + 1, 2, none⟩ = some (.slice F x y) := by rw [hW0]; exact cell_on (bpush (Below.refl _ _) _) (cell_made (by simp) rfl)
  have hvb : Blk W0 (w.heap.size + 1 + 1 + 1) 27 #[.int .i64 0, .slice none 0 0] := by rw [hW0]; have := Blk.new (((w.alloc (.cells #[.slice A n c, .slice E m d] 24)).alloc (.cells #[.int .i64 k, .slice SA sn sc] 27)).alloc (.cells #[.int .i64 t, .slice EA p q, .slice F x y] 29)) 27 #[.int .i64 0, .slice none 0 0]; simpa using this
  have HCC := Lib.hid (check_any A E EA F n c m d p q x y t L M D X W0 (hE.keep (Nat.le_refl _) hb0) (hF.keep (Nat.le_refl _) hb0) hn hm hp hx hD (by omega) (by omega) v hv)
  have HCL := Lib.hid (fun W (hW : Below w.heap.size w W) => cloneI_any SA sn sc (intsV S) W (hS.keep (Nat.le_refl _) hW) (by simp [intsV, hsn]) (one_intsV _) hss hsa (by omega))
  have HS := Lib.hid hS
  have HF := Lib.hid hF
  have HSN := Lib.hid hsn
  have HX := Lib.hid hx
  have HM := Lib.hid hm
  have HCK := Lib.hid hv
  have HB0 := Lib.hid hb0
  have HSZ := Lib.hid hz0
  have HW0 := Lib.hid hW0
  have HX2 := Lib.hid hx2
  obtain ⟨r, hr⟩ : ∃ r, r = chg k S X m v := ⟨_, rfl⟩
  rw [← hr]
  have HR := Lib.hid hr
  clear hS hE hF hn hm hsn hp hx hD hss hsa hp2 hx2 hv hW0 hr
  go_enter Tryz.func11, Tryz.ntmps11
  go_wp2_with fail
  rw [← HW0.out]
  clear HW0
  go_at_call 28
  refine HCC.out.mono ?_
  clear HCC
  rintro e W1 ⟨rfl, hb1⟩
  have HB1 := Lib.hid (bthen HB0.out hb1)
  have HSZ := Lib.hid (show w.heap.size + 4 ≤ W1.heap.size by have := hb1.size; have := HSZ.out; omega)
  have HVB := Lib.hid (hvb.grown (grown_none hb1) (by simp))
  have x1 := cell_on hb1 x1
  have y0 := cell_on hb1 y0
  have y1 := cell_on hb1 y1
  have z2 := cell_on hb1 z2
  have HV := Lib.hid (show W1.cell? ⟨w.heap.size + 1 + 1 + 1, 0, none⟩ = some (.int .i64 0) ∧ W1.cell? ⟨w.heap.size + 1 + 1 + 1, 1, none⟩ = some (.slice none 0 0) ∧ (∀ i, W1.frozen? ⟨w.heap.size + 1 + 1 + 1, i, none⟩ = false) from ⟨HVB.out.cell 0, HVB.out.cell 1, HVB.out.frozen⟩)
  have hsz := HSZ.out
  have HCEL := Lib.hid (fun W (hW : Below W1.heap.size W1 W) => show W.cell? ⟨w.heap.size + 1, 0, none⟩ = some (.int .i64 k) ∧ W.cell? ⟨w.heap.size + 1, 1, none⟩ = some (.slice SA sn sc) from ⟨cell_on hW y0, cell_on hW y1⟩)
  have HCEZ := Lib.hid (fun W (hW : Below W1.heap.size W1 W) => show W.cell? ⟨w.heap.size + 1 + 1, 2, none⟩ = some (.slice F x y) from cell_on hW z2)
  clear hb1 hb0 hvb hz0
  by_cases hv0 : v = 0
  case neg =>
    have z1 : (v != 0) = true := by rw [bne_iff_ne]; exact hv0
    have HR2 := Lib.hid (show r = ((0, []), v) by rw [HR.out, chg, if_neg hv0])
    clear hv0
    obtain ⟨v0, v1, vf⟩ := HV.out
    go_wp2_with fail
    (try simp only [Exit.inBlock, Exit.then])
    refine bodyPost_ret (v := .tuple #[.agg #[.int .i64 0, .slice none 0 0], .int .i64 v]) (by simp [results, Tryz.results11, go_sem, (two_set HVB.out (.int .i64 0) (.slice none 0 0)).1, (two_set HVB.out (.int .i64 0) (.slice none 0 0)).2]) rfl ?_
    exact ChgOwn.none HR2.out (bset (bset HB1.out (o := 0) (by omega) _) (o := 1) (by omega) _)
  case pos =>
  subst hv0
  have HEV := Lib.hid (HCK.out.ok rfl)
  clear HCK
  by_cases hsm : sn = m
  case neg =>
    have z3 : ((sn : Int) != (m : Int)) = true := by rw [bne_iff_ne]; omega
    have HR2 := Lib.hid (show r = ((0, []), 182) by rw [HR.out, chg, if_pos rfl, if_pos (.inl (by rw [← HSN.out]; exact hsm))])
    clear hsm
    obtain ⟨v0, v1, vf⟩ := HV.out
    go_wp2_with fail
    (try simp only [Exit.inBlock, Exit.then])
    refine bodyPost_ret (v := .tuple #[.agg #[.int .i64 0, .slice none 0 0], .int .i64 182]) (by simp [results, Tryz.results11, go_sem, (two_set HVB.out (.int .i64 0) (.slice none 0 0)).1, (two_set HVB.out (.int .i64 0) (.slice none 0 0)).2]) rfl ?_
    exact ChgOwn.none HR2.out (bset (bset HB1.out (o := 0) (by omega) _) (o := 1) (by omega) _)
  case pos =>
  have z3 : ((sn : Int) != (m : Int)) = false := by rw [bne_eq_false_iff_eq]; omega
  by_cases hk0 : k < 0
  case pos =>
    have HR2 := Lib.hid (show r = ((0, []), 182) by rw [HR.out, chg, if_pos rfl, if_pos (.inr (.inl hk0))])
    clear hsm
    obtain ⟨v0, v1, vf⟩ := HV.out
    go_wp2_with fail
    (try simp only [Exit.inBlock, Exit.then])
    refine bodyPost_ret (v := .tuple #[.agg #[.int .i64 0, .slice none 0 0], .int .i64 182]) (by simp [results, Tryz.results11, go_sem, (two_set HVB.out (.int .i64 0) (.slice none 0 0)).1, (two_set HVB.out (.int .i64 0) (.slice none 0 0)).2]) rfl ?_
    exact ChgOwn.none HR2.out (bset (bset HB1.out (o := 0) (by omega) _) (o := 1) (by omega) _)
  case neg =>
  by_cases hk1 : 1048576 ≤ k
  case pos =>
    have HR2 := Lib.hid (show r = ((0, []), 182) by rw [HR.out, chg, if_pos rfl, if_pos (.inr (.inr hk1))])
    clear hsm
    obtain ⟨v0, v1, vf⟩ := HV.out
    go_wp2_with fail
    (try simp only [Exit.inBlock, Exit.then])
    refine bodyPost_ret (v := .tuple #[.agg #[.int .i64 0, .slice none 0 0], .int .i64 182]) (by simp [results, Tryz.results11, go_sem, (two_set HVB.out (.int .i64 0) (.slice none 0 0)).1, (two_set HVB.out (.int .i64 0) (.slice none 0 0)).2]) rfl ?_
    exact ChgOwn.none HR2.out (bset (bset HB1.out (o := 0) (by omega) _) (o := 1) (by omega) _)
  case neg =>
  have HR2 := Lib.hid (show r = chgS k S X by rw [HR.out, chg, if_pos rfl, if_neg (by rw [← HSN.out]; intro h; rcases h with h | h | h; exact h hsm; exact hk0 h; exact hk1 h)])
  have HXS := Lib.hid (show X.length = S.length by rw [HEV.out.xl, ← HM.out, ← hsm, HSN.out])
  have hxs : x = sn := by rw [HX.out, HSN.out, HXS.out]
  have jw : IntKind.i64.wrap (k + 1) = k + 1 := IntWalk.i64_in _ (by omega)
  subst hsm
  subst hxs
  go_upto_region 7 with fail
  go_cut [10] (fun s10 wx => ∃ (g : Nat) (D1 : Option Addr) (k1 : Nat), s10 = .pointer (some ⟨g, 0, none⟩) ∧ Hid (Blk wx g 27 #[.int .i64 (k + 1), .slice D1 x k1]) ∧ Hid (wx.ownsRow W1.heap.size 3 1 (.slice D1 x k1) x (intsV S)) ∧ Hid (W1.heap.size ≤ g) ∧ Hid (Below W1.heap.size W1 wx))
  case first =>
    have hb9 : Below W1.heap.size W1 W1.drew := below_drewN (Below.refl _ _) 1
    refine wp_region_held_drew (S := fun W => (W.cell? ⟨w.heap.size + 1, 0, none⟩ = some (.int .i64 k) ∧ W.cell? ⟨w.heap.size + 1, 1, none⟩ = some (.slice SA x sc)) ∧ Below W1.heap.size W1 W) (by kernel_rfl) (⟨HCEL.out _ hb9, hb9⟩) ?_
    intro hHeld
    refine take_want (i := 0) (v := ?v0k1) rfl (by kernel_rfl) (by kernel_rfl) (by kernel_rfl) (fun _ _ _ h => h) (by rfl) ?y0k1 (by assumption) ?r0k1
    case y0k1 => (intro w hSw; go_simp; all_goals with_reducible rfl)
    (try simp only [Act.put, List.setIfInBounds_toArray, List.set_cons_zero, List.set_cons_succ])
    refine take_want (i := 1) (v := ?v1k1) rfl (by kernel_rfl) (by kernel_rfl) (by kernel_rfl) (fun _ _ _ h => h) (by rfl) ?y1k1 (by assumption) ?r1k1
    case y1k1 => (intro w hSw; obtain ⟨⟨q0, q1⟩, -⟩ := hSw; go_simp; all_goals with_reducible rfl)
    (try simp only [Act.put, List.setIfInBounds_toArray, List.set_cons_zero, List.set_cons_succ])
    refine take_want (i := 2) (v := ?v2k1) rfl (by kernel_rfl) (by kernel_rfl) (by kernel_rfl) (fun _ _ _ h => h) (by rfl) ?y2k1 (by assumption) ?r2k1
    case y2k1 => (intro w hSw; go_simp; all_goals with_reducible rfl)
    (try simp only [Act.put, List.setIfInBounds_toArray, List.set_cons_zero, List.set_cons_succ])
    refine take_want (i := 3) (v := ?v3k1) rfl (by kernel_rfl) (by kernel_rfl) (by kernel_rfl) (fun _ _ _ h => h) (by rfl) ?y3k1 (by assumption) ?r3k1
    case y3k1 => (intro w hSw; go_simp; all_goals with_reducible rfl)
    (try simp only [Act.put, List.setIfInBounds_toArray, List.set_cons_zero, List.set_cons_succ])
    refine take_want (i := 4) (v := ?v4k1) rfl (by kernel_rfl) (by kernel_rfl) (by kernel_rfl) (fun _ _ _ h => h) (by rfl) ?y4k1 (by assumption) ?r4k1
    case y4k1 => (intro w hSw; obtain ⟨⟨q0, q1⟩, -⟩ := hSw; go_simp; all_goals with_reducible rfl)
    (try simp only [Act.put, List.setIfInBounds_toArray, List.set_cons_zero, List.set_cons_succ])
    refine wpAnyH_ready (rs := [5, 7]) (by kernel_rfl) (by simp) ?_
    refine AllReadyH.cons rfl (fun K hK => ?_) (AllReadyH.cons rfl (fun K hK => ?_) AllReadyH.nil)
    · go_simp
      (go_at_call 29; refine (HCL.out _ (bthen HB1.out hHeld.2)).mono ?_; rintro e w8 ⟨D1, k1, rfl, ho, hb⟩)
      have hk := bthen hHeld.2 hb
      refine hK.out _ _ (⟨HCEL.out _ hk, hk⟩) (fun hHeld => ?_)
      clear hK K
      (try simp only [Act.put, List.setIfInBounds_toArray, List.set_cons_zero, List.set_cons_succ])
      refine take_want (i := 6) (v := ?v6k2) rfl (by kernel_rfl) (by kernel_rfl) (by kernel_rfl) (fun _ _ _ h => h) (by rfl) ?y6k2 (by assumption) ?r6k2
      case y6k2 => (intro w hSw; go_simp; all_goals with_reducible rfl)
      (try simp only [Act.put, List.setIfInBounds_toArray, List.set_cons_zero, List.set_cons_succ])
      refine wpAnyH_ready (rs := [7]) (by kernel_rfl) (by simp) ?_
      refine AllReadyH.cons rfl (fun K hK => ?_) AllReadyH.nil
      have hge : W1.heap.size ≤ w8.heap.size := hHeld.2.size
      go_simp
      have hk := bpush hHeld.2 (.cells #[.int .i64 0, .slice none 0 0] 27)
      refine hK.out _ _ (by first | exact ⟨HCEL.out _ hk, hk⟩ | (simp at hk ⊢; exact ⟨HCEL.out _ hk, hk⟩)) (fun hHeld => ?_)
      clear hK K
      (try simp only [Act.put, List.setIfInBounds_toArray, List.set_cons_zero, List.set_cons_succ])
      obtain ⟨wz, hwz⟩ : ∃ x, x = w8.alloc (.cells #[.int .i64 0, .slice none 0 0] 27) := ⟨_, rfl⟩
      have hbz : Below w8.heap.size w8 wz := by rw [hwz]; first | exact bpush (Below.refl _ _) _ | exact below_drewN (bpush (Below.refl _ _) _) 1
      have hbx : Blk wz w8.heap.size 27 #[.int .i64 0, .slice none 0 0] := by rw [hwz]; exact Blk.new w8 27 _
      have hzs : wz.heap.size = w8.heap.size + 1 := by rw [hwz]; simp
      rw [← hwz] at hHeld ⊢
      clear hwz hk
      have ho := own_below ho hbz
      have hz1 := HB1.out.size
      have hz2' : W1.drew.heap.size = W1.heap.size := rfl
      have hz3 := hb.size
      have HBX := Lib.hid hbx
      have HO1 := Lib.hid (own_less ho (C := W1.heap.size) (by omega))
      clear hbx ho
      have e0 := HBX.out.cell 0
      have e1 := HBX.out.cell 1
      simp at e0 e1
      have ef := HBX.out.frozen
      refine wpAnyH_ready (rs := [8]) (by kernel_rfl) (by simp) ?_
      refine AllReadyH.cons rfl (fun K hK => ?_) AllReadyH.nil
      go_simp
      have hBs := bset (bset hHeld.2 (o := 0) hge (.int .i64 (k + 1))) (o := 1) hge (.slice D1 x k1)
      refine hK.out _ _ (by first | exact ⟨HCEL.out _ hBs, hBs⟩ | (simp at hBs ⊢; exact ⟨HCEL.out _ hBs, hBs⟩)) (fun hHeld2 => ?_)
      clear hK K
      (try simp only [Act.put, List.setIfInBounds_toArray, List.set_cons_zero, List.set_cons_succ])
      refine wpAnyH_done (by kernel_rfl) ?_ _
      go_wp2_with fail
      go_meet
      have hbx2 := (HBX.out.set_ 0 (.int .i64 (k + 1))).set_ 1 (.slice D1 x k1)
      simp at hbx2
      have hnb := HO1.out.not_blk HBX.out (by decide)
      exact ⟨w8.heap.size, D1, k1, rfl, Lib.hid hbx2, Lib.hid (own_set' (own_set' HO1.out hnb) hnb), Lib.hid (show W1.heap.size ≤ w8.heap.size from hge), Lib.hid hHeld2.2⟩
    · have hge : W1.heap.size ≤ W1.heap.size := Nat.le_refl _
      go_simp
      have hk := bpush hHeld.2 (.cells #[.int .i64 0, .slice none 0 0] 27)
      refine hK.out _ _ (by first | exact ⟨HCEL.out _ hk, hk⟩ | (simp at hk ⊢; exact ⟨HCEL.out _ hk, hk⟩)) (fun hHeld => ?_)
      clear hK K
      (try simp only [Act.put, List.setIfInBounds_toArray, List.set_cons_zero, List.set_cons_succ])
      obtain ⟨wz, hwz⟩ : ∃ x, x = (W1.alloc (.cells #[.int .i64 0, .slice none 0 0] 27)).drew := ⟨_, rfl⟩
      have hbz : Below W1.heap.size W1 wz := by rw [hwz]; first | exact bpush (Below.refl _ _) _ | exact below_drewN (bpush (Below.refl _ _) _) 1
      have hbx : Blk wz W1.heap.size 27 #[.int .i64 0, .slice none 0 0] := by rw [hwz]; exact Blk.new W1 27 _
      have hzs : wz.heap.size = W1.heap.size + 1 := by rw [hwz]; simp
      rw [← hwz] at hHeld ⊢
      clear hwz hk
      refine wpAnyH_ready (rs := [5]) (by kernel_rfl) (by simp) ?_
      refine AllReadyH.cons rfl (fun K hK => ?_) AllReadyH.nil
      go_simp
      (go_at_call 29; refine (HCL.out _ (bthen HB1.out hHeld.2)).mono ?_; rintro e w8 ⟨D1, k1, rfl, ho, hb⟩)
      have hk := bthen hHeld.2 hb
      refine hK.out _ _ (⟨HCEL.out _ hk, hk⟩) (fun hHeld => ?_)
      clear hK K
      (try simp only [Act.put, List.setIfInBounds_toArray, List.set_cons_zero, List.set_cons_succ])
      refine take_want (i := 6) (v := ?v6k3) rfl (by kernel_rfl) (by kernel_rfl) (by kernel_rfl) (fun _ _ _ h => h) (by rfl) ?y6k3 (by assumption) ?r6k3
      case y6k3 => (intro w hSw; go_simp; all_goals with_reducible rfl)
      (try simp only [Act.put, List.setIfInBounds_toArray, List.set_cons_zero, List.set_cons_succ])
      have hbx := hbx.grown (grown_none hb) (by simp)
      have hz1 := HB1.out.size
      have hz2' : W1.drew.heap.size = W1.heap.size := rfl
      have hz3 := hb.size
      have HBX := Lib.hid hbx
      have HO1 := Lib.hid (own_less ho (C := W1.heap.size) (by omega))
      clear hbx ho
      have e0 := HBX.out.cell 0
      have e1 := HBX.out.cell 1
      simp at e0 e1
      have ef := HBX.out.frozen
      refine wpAnyH_ready (rs := [8]) (by kernel_rfl) (by simp) ?_
      refine AllReadyH.cons rfl (fun K hK => ?_) AllReadyH.nil
      go_simp
      have hBs := bset (bset hHeld.2 (o := 0) hge (.int .i64 (k + 1))) (o := 1) hge (.slice D1 x k1)
      refine hK.out _ _ (by first | exact ⟨HCEL.out _ hBs, hBs⟩ | (simp at hBs ⊢; exact ⟨HCEL.out _ hBs, hBs⟩)) (fun hHeld2 => ?_)
      clear hK K
      (try simp only [Act.put, List.setIfInBounds_toArray, List.set_cons_zero, List.set_cons_succ])
      refine wpAnyH_done (by kernel_rfl) ?_ _
      go_wp2_with fail
      go_meet
      have hbx2 := (HBX.out.set_ 0 (.int .i64 (k + 1))).set_ 1 (.slice D1 x k1)
      simp at hbx2
      have hnb := HO1.out.not_blk HBX.out (by decide)
      exact ⟨W1.heap.size, D1, k1, rfl, Lib.hid hbx2, Lib.hid (own_set' (own_set' HO1.out hnb) hnb), Lib.hid (show W1.heap.size ≤ W1.heap.size from hge), Lib.hid hHeld2.2⟩
  case rest =>
    obtain ⟨g, D1, k1, rfl, HBX, HO, HGE, HBW⟩ := hcut
    have hge := HGE.out
    obtain ⟨W2, hW2⟩ : ∃ W, W = wc := ⟨_, rfl⟩
    subst hW2
    clear x1 y0 y1 z2 HV
    go_wp2_with fail
    go_loopw [11, 12, 47] (fun _ _ i wr => ∃ (k0 : Nat) (acc : List Int), i = .int .i64 (k0 : Int) ∧ k0 ≤ x ∧ Hid (AddSt S X k0 acc) ∧ Hid (wr.ownsRow W1.heap.size 3 1 (.slice D1 x k1) x (intsV (acc ++ S.drop k0))) ∧ Hid (Blk wr g 27 #[.int .i64 (k + 1), .slice D1 x k1]) ∧ Hid (Below W1.heap.size W1 wr)) (fun _ _ i _ => x - (intOf i).toNat)
    case atStart => exact ⟨0, [], rfl, Nat.zero_le _, Lib.hid (AddSt.start S X), HO, HBX, HBW⟩
    case round =>
      obtain ⟨k0, acc, rfl, hk, HST, HOV, HBK, HBR⟩ := hrel
      have HVB := Lib.hid (HVB.out.grown (grown_none HBR.out) (by simp))
      have HV := Lib.hid (show wr.cell? ⟨w.heap.size + 1 + 1 + 1, 0, none⟩ = some (.int .i64 0) ∧ wr.cell? ⟨w.heap.size + 1 + 1 + 1, 1, none⟩ = some (.slice none 0 0) ∧ (∀ i, wr.frozen? ⟨w.heap.size + 1 + 1 + 1, i, none⟩ = false) from ⟨HVB.out.cell 0, HVB.out.cell 1, HVB.out.frozen⟩)
      have HBB := Lib.hid (bthen HB1.out HBR.out)
      by_cases hlt : k0 < x
      case neg =>
        have hki : ¬ ((k0 : Int) < (x : Int)) := by omega
        have hkx : k0 = S.length := by have := HSN.out; omega
        have HR3 := Lib.hid (show r = ((k + 1, acc), 0) by rw [HR2.out, chgS, HST.out.fin hkx])
        have HOV := Lib.hid (show wr.ownsRow W1.heap.size 3 1 (.slice D1 x k1) x (intsV acc) by have h := HOV.out; rwa [hkx, List.drop_length, List.append_nil] at h)
        have hxa : x = acc.length := by have := HOV.out.1; simp at this; exact this.symm
        have HXA := Lib.hid hxa
        clear hlt hkx hxa HST
        have b0 := HBK.out.cell 0
        have b1 := HBK.out.cell 1
        simp at b0 b1
        obtain ⟨v0, v1, vf⟩ := HV.out
        go_wp2_with fail
        (try simp only [Exit.inBlock, Exit.then])
        refine bodyPost_ret (v := .tuple #[.agg #[.int .i64 (k + 1), .slice D1 x k1], .int .i64 0]) (by simp [results, Tryz.results11, go_sem, (two_set HVB.out (.int .i64 (k + 1)) (.slice D1 x k1)).1, (two_set HVB.out (.int .i64 (k + 1)) (.slice D1 x k1)).2]) rfl ?_
        have hnb := HOV.out.not_blk HVB.out (by decide)
        have hof := own_set' (u := .slice D1 x k1) (o := 1) (own_set' (u := .int .i64 (k + 1)) (o := 0) HOV.out hnb) hnb
        obtain ⟨A', c', e', hr', hc', ha'⟩ := own_slice hof
        cases e'
        refine ⟨D1, x, k1, by rw [HR3.out], by rw [HR3.out]; exact HXA.out, hc', ha', by rw [HR3.out]; exact hr', bset (bset HBB.out (o := 0) (by omega) _) (o := 1) (by omega) _, by rw [HR3.out]; exact own_less hof (by omega)⟩
      case pos =>
      have hki : (k0 : Int) < (x : Int) := by omega
      have hk00 : (0 : Int) ≤ (k0 : Int) := by omega
      have hkX : k0 < X.length := by have := HX.out; omega
      have hkS : k0 < S.length := by have := HSN.out; omega
      obtain ⟨bf1, of1, rfl, p0⟩ := (HF.out.keep (Nat.le_refl _) HBB.out).cell hkX
      obtain ⟨bs1, os1, rfl, p1⟩ := (HS.out.keep (Nat.le_refl _) HBB.out).cell hkS
      obtain ⟨a0, ha⟩ : ∃ t, t = X[k0] := ⟨_, rfl⟩
      obtain ⟨s0, hs⟩ : ∃ t, t = S[k0] := ⟨_, rfl⟩
      rw [← ha] at p0
      rw [← hs] at p1
      obtain ⟨z0, hz⟩ : ∃ z, z = szI a0 := ⟨_, rfl⟩
      have hgr : ¬ greatZ a0 := by rw [ha]; exact HEV.out.xv _ (List.getElem_mem _)
      have HSI := Lib.hid (fun W => size_any a0 hgr W)
      rw [← hz] at HSI
      have hbd := szI_bd hgr
      rw [← hz] at hbd
      have HCI := Lib.hid (show (S[k0] < 0 ∨ 4611686018427387904 - szI X[k0] < S[k0]) ↔ (s0 < 0 ∨ 4611686018427387904 - z0 < s0) by rw [hs, hz, ha])
      have HZ := Lib.hid (show S[k0] + szI X[k0] = s0 + z0 by rw [hs, hz, ha])
      have HSV := Lib.hid (show S[k0] = s0 from hs.symm)
      have HST0 := HST
      have e4 := HCEZ.out wr HBR.out
      obtain ⟨e5, e6⟩ := HCEL.out wr HBR.out
      have jw2 : IntKind.i64.wrap (4611686018427387904 - z0) = 4611686018427387904 - z0 := IntWalk.i64_in _ (by omega)
      have HLT := Lib.hid hlt
      clear ha hs hz hgr hlt
      by_cases hc1 : s0 < 0
      case pos =>
        have HR3 := Lib.hid (show r = ((0, []), 182) by rw [HR2.out, chgS, HST.out.bad hkS hkX (HCI.out.2 (.inl hc1))])
        obtain ⟨v0, v1, vf⟩ := HV.out
        go_wp2_with (go_at_call 30; refine (HSI.out _).mono ?_; rintro e wc ⟨rfl, rfl⟩)
        (try simp only [Exit.inBlock, Exit.then])
        refine bodyPost_ret (v := .tuple #[.agg #[.int .i64 0, .slice none 0 0], .int .i64 182]) (by simp [results, Tryz.results11, go_sem, (two_set HVB.out (.int .i64 0) (.slice none 0 0)).1, (two_set HVB.out (.int .i64 0) (.slice none 0 0)).2]) rfl ?_
        exact ChgOwn.none HR3.out (bset (bset HBB.out (o := 0) (by omega) _) (o := 1) (by omega) _)
      case neg =>
      by_cases hc2 : 4611686018427387904 - z0 < s0
      case pos =>
        have HR3 := Lib.hid (show r = ((0, []), 182) by rw [HR2.out, chgS, HST.out.bad hkS hkX (HCI.out.2 (.inr hc2))])
        obtain ⟨v0, v1, vf⟩ := HV.out
        go_wp2_with (go_at_call 30; refine (HSI.out _).mono ?_; rintro e wc ⟨rfl, rfl⟩)
        (try simp only [Exit.inBlock, Exit.then])
        refine bodyPost_ret (v := .tuple #[.agg #[.int .i64 0, .slice none 0 0], .int .i64 182]) (by simp [results, Tryz.results11, go_sem, (two_set HVB.out (.int .i64 0) (.slice none 0 0)).1, (two_set HVB.out (.int .i64 0) (.slice none 0 0)).2]) rfl ?_
        exact ChgOwn.none HR3.out (bset (bset HBB.out (o := 0) (by omega) _) (o := 1) (by omega) _)
      case neg =>
      have HST2 := Lib.hid (HST.out.step hkS hkX (fun h => by rcases HCI.out.1 h with h1 | h1; exact hc1 h1; exact hc2 h1))
      rw [HZ.out] at HST2
      obtain ⟨b, rfl, hbge, o1, of⟩ := own_at1 HOV.out HLT.out
      have hv1 : (intsV (acc ++ S.drop k0))[k0]? = some (.int .i64 s0) := by
        rw [put_at acc S k0 HST0.out.len hkS, HSV.out]
      rw [hv1] at o1
      have b0 := HBK.out.cell 0
      have b1 := HBK.out.cell 1
      simp at b0 b1
      have jw3 : IntKind.i64.wrap (s0 + z0) = s0 + z0 := IntWalk.i64_in _ (by omega)
      have HOV2 := Lib.hid (show (wr.setCell ⟨b, k0, none⟩ (.int .i64 (s0 + z0))).ownsRow W1.heap.size 3 1 (.slice (some ⟨b, 0, none⟩) x k1) x (intsV ((acc ++ [s0 + z0]) ++ S.drop (k0 + 1))) by
        have h := own_put HOV.out k0 (.int .i64 (s0 + z0))
        rw [put_step acc S k0 HST0.out.len hkS] at h
        exact h)
      have hgb : g ≠ b := fun e => by have h := HOV.out.not_blk HBK.out (by decide); exact h (by rw [e]; rfl)
      have HBK2 := Lib.hid (HBK.out.far (p := ⟨b, k0, none⟩) hgb (.int .i64 (s0 + z0)))
      have HBR2 := Lib.hid (bset HBR.out (b := b) (o := k0) hbge (.int .i64 (s0 + z0)))
      clear HOV HST HST0 HBK hv1
      go_wp2_with (go_at_call 30; refine (HSI.out _).mono ?_; rintro e wc ⟨rfl, rfl⟩)
      go_roundw
      case rel => exact ⟨k0 + 1, acc ++ [s0 + z0], by go_num, by have := HLT.out; omega, HST2, HOV2, HBK2, HBR2⟩
      case measure => have := HLT.out; simp [intOf]; omega
theorem charge_any (A E SA EA F : Option Addr) (n c m d sn sc p q x y : Nat) (k t : Int) (L M D : List ByteArray) (X S : List Int) (w : World) (hS : Row w SA (intsV S)) (hE : Row w EA (texts D)) (hF : Row w F (intsV X)) (hn : n = L.length) (hm : m = M.length) (hsn : sn = S.length) (hp : p = D.length) (hx : x = X.length)
    (hD : ∀ s ∈ D, s.size ≤ 9223372036854775807) (hss : sn ≤ sc) (hsa : SA = none → sc = 0) (hp2 : p ≤ 1000000) (hx2 : x ≤ 1000000) (hsn2 : sn ≤ 1000000) (hm2 : m ≤ 1000000) (v : Int) (hv : CheckIs L M D X t v) :
    Calls Tryz.prog 11 #[.agg #[.slice A n c, .slice E m d], .agg #[.int .i64 k, .slice SA sn sc], .agg #[.int .i64 t, .slice EA p q, .slice F x y]] w (ChgPost w (chg k S X m v)) :=
  (charge_own A E SA EA F n c m d sn sc p q x y k t L M D X S w hS hE hF hn hm hsn hp hx hD hss hsa hp2 hx2 hsn2 hm2 v hv).mono fun _ _ h => h.post
end Go.Proofs.YtmmeekmiildliaaGreatDoor
