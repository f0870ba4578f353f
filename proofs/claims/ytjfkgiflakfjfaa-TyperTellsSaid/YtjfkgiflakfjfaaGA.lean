/- Filters together: the walk of TyperFilter (5). -/
import Derived.Test.YtjfkgiflakfjfaaFZ
namespace Go.Proofs.Ytjfkgiflakfjfaa
open Go.RowKit Go.Maps Go.Lib Go.Shelf
set_option linter.unusedSimpArgs false
set_option linter.unusedVariables false
def fNot (K : Nat) (f : FT) : FT := .mk 3 ⟨#[]⟩ ⟨#[]⟩ (some ⟨K, 0, none⟩) 1 1 [f]
def fOr (K : Nat) (f g : FT) : FT := .mk 5 ⟨#[]⟩ ⟨#[]⟩ (some ⟨K, 0, none⟩) 2 2 [f, g]
def fAnd (K : Nat) (f : FT) : FT := .mk 4 ⟨#[]⟩ ⟨#[]⟩ (some ⟨K, 0, none⟩) 1 1 [f]
def fAll : FT := .mk 0 ⟨#[]⟩ ⟨#[]⟩ none 0 0 []
theorem form_deep : ∀ (f : FT) (k j : Nat), f.form k = true → f.depth ≤ j → f.form j = true := by
  intro f
  induction f using FT.ind with
  | h f ih =>
    intro k j hf hd
    cases k with
    | zero => rw [f.form_zero] at hf; cases hf
    | succ k =>
      rw [f.depth_eq] at hd
      cases j with
      | zero => omega
      | succ j =>
        rw [f.form_eq, Bool.and_eq_true, List.all_eq_true] at hf
        rw [f.form_eq, hf.2, Bool.and_true, List.all_eq_true]
        intro b hb
        obtain ⟨x, hx, rfl⟩ := List.mem_map.1 hb
        have h1 := hf.1 _ (List.mem_map.2 ⟨x, hx, rfl⟩)
        exact ih x hx k j h1 (Nat.le_trans (le_maxL (List.mem_map.2 ⟨x, hx, rfl⟩)) (by omega))
theorem shp_deep {f : FT} {d : Nat} (h : f.shp 1 = true) (h0 : f.op ≠ 0) (hd : f.depth + d ≤ 31) (h2 : 2 ≤ d) : f.shp d = true := by
  rw [shp_top f h0] at h
  rw [shp_form f d h2]
  exact form_deep f 30 _ h (by omega)
theorem fNot_shp {K : Nat} {f : FT} {d : Nat} (hd : 1 ≤ d ∧ d ≤ 30) (h : f.shp (d + 1) = true) : (fNot K f).shp d = true := by
  rw [FT.shp_eq]
  have h1 : (fNot K f).opTop (decide (d = 1)) = true := by cases decide (d = 1) <;> rfl
  rw [h1, decide_eq_true hd.2]
  show (true && true && ([f].map fun x => x.shp (d + 1)).all id) = true
  simp [h]
theorem fOr_shp {K : Nat} {f g : FT} (h : f.shp 2 = true) (k : g.shp 2 = true) : (fOr K f g).shp 1 = true := by
  rw [FT.shp_eq]
  have h1 : (fOr K f g).opTop (decide (1 = 1)) = true := rfl
  rw [h1, decide_eq_true (show 1 ≤ 30 by omega)]
  show (true && true && ([f, g].map fun x => x.shp (1 + 1)).all id) = true
  simp [h, k]
theorem fAnd_shp {K : Nat} {f : FT} : (fAnd K f).shp 1 = false := by
  rw [FT.shp_eq]
  have h1 : (fAnd K f).opTop (decide (1 = 1)) = false := rfl
  rw [h1, decide_eq_true (show 1 ≤ 30 by omega)]; rfl
theorem fAll_shp : fAll.shp 1 = true := by
  rw [FT.shp_eq]
  have h1 : fAll.opTop (decide (1 = 1)) = true := by decide
  rw [h1]; rfl
theorem fNot_leaves (K : Nat) (f : FT) : (fNot K f).leaves = f.leaves := by
  rw [FT.leaves_eq]
  show [] ++ [f.leaves].flatten = _
  simp
theorem fOr_leaves (K : Nat) (f g : FT) : (fOr K f g).leaves = f.leaves ++ g.leaves := by
  rw [FT.leaves_eq]
  show [] ++ [f.leaves, g.leaves].flatten = _
  simp
theorem fAll_leaves : fAll.leaves = [] := by rw [FT.leaves_eq]; rfl
theorem shape_q {q : QZ} (h : shapeS q = true) : q.f.shp 1 = true := by
  unfold shapeS at h
  simp only [Bool.and_eq_true] at h
  exact h.2
theorem check_with {L M : List ByteArray} {q : QZ} {g : FT} (h : checkS L M q = 0) (hs : g.shp 1 = true) (hl : ∀ x ∈ g.leaves, x ∈ q.f.leaves) : checkS L M { q with f := g } = 0 := by
  unfold checkS at h ⊢
  obtain ⟨h1, h2, h3⟩ := chkS_zero h
  have a1 : shapeS { q with f := g } = true := by
    unfold shapeS at h1 ⊢
    simp only [Bool.and_eq_true] at h1 ⊢
    exact ⟨h1.1, hs⟩
  have a2 : namedS L M { q with f := g } = true := by
    unfold namedS at h2 ⊢
    simp only [Bool.and_eq_true] at h2 ⊢
    exact ⟨⟨⟨h2.1.1.1, List.all_eq_true.2 fun x hx => List.all_eq_true.1 h2.1.1.2 x (hl x hx)⟩, h2.1.2⟩, h2.2⟩
  have a3 : boundedS (g.leaves.all lfV) { q with f := g } = true := by
    unfold boundedS at h3 ⊢
    simp only [Bool.and_eq_true] at h3 ⊢
    refine ⟨h3.1, ?_⟩
    have h4 := h3.2
    unfold numsS at h4 ⊢
    simp only [Bool.and_eq_true] at h4 ⊢
    exact ⟨⟨⟨⟨⟨⟨⟨⟨List.all_eq_true.2 fun x hx => List.all_eq_true.1 h4.1.1.1.1.1.1.1.1 x (hl x hx), h4.1.1.1.1.1.1.1.2⟩, h4.1.1.1.1.1.1.2⟩, h4.1.1.1.1.1.2⟩, h4.1.1.1.1.2⟩, h4.1.1.1.2⟩, h4.1.1.2⟩, h4.1.2⟩, h4.2⟩
  rw [a1, a2]
  show chkS true true (boundedS (g.leaves.all lfV) { q with f := g }) = 0
  rw [a3]; rfl
theorem check_bad {L M : List ByteArray} {q : QZ} {g : FT} (hs : g.shp 1 = false) : checkS L M { q with f := g } = 221 := by
  unfold checkS
  have a1 : shapeS { q with f := g } = false := by
    unfold shapeS
    rw [show ({ q with f := g } : QZ).f.shp 1 = false from hs, Bool.and_false]
  rw [a1]; rfl
theorem used_same {L K K' : List ByteArray} (h : ∀ x, x ∈ K ↔ x ∈ K') : usedL L K = usedL L K' := by
  unfold usedL
  refine List.filter_congr fun x _ => ?_
  rw [Bool.eq_iff_iff, inT_iff, inT_iff]; exact h x
theorem used_less {L K K' : List ByteArray} (h : ∀ x ∈ K, x ∈ K') : (usedL L K).length ≤ (usedL L K').length := by
  unfold usedL
  rw [← List.countP_eq_length_filter, ← List.countP_eq_length_filter]
  refine List.countP_mono_left fun x _ hx => ?_
  rw [inT_iff] at hx ⊢
  exact h x hx
theorem q_with {w : World} {q : QZ} {g : FT} (h : QIn w q) (hg : FIn w g) : QIn w { q with f := g } := { h with f := hg }
theorem kids_row {w : World} {K : Nat} {cs : Array Value} {l : List FT} (h : Blk w K 29 cs) (e : cs.toList = cellsK l) : Row w (some ⟨K, 0, none⟩) (cellsK l) := h.row e
def TextsN (w : World) (n : Nat) (L : List ByteArray) (e : Ending) (w' : World) : Prop := ∃ v, e = .returned v ∧ w'.ownsRow w.heap.size 9 1 v n (texts L) ∧ Below w.heap.size w w'
theorem fr_four (w : World) (g : Nat) (a b c d : Value) : Fr (fun i => i = g) w ((((w.setCell ⟨g, 5, none⟩ a).setCell ⟨g, 6, none⟩ b).setCell ⟨g, 7, none⟩ c).setCell ⟨g, 8, none⟩ d) := by
  have h0 : Fr (fun i => i = g) w w := Fr.refl _ _
  have h1 := h0.set_ (a := g) (o := 5) (.inl rfl) a
  have h2 := h1.set_ (a := g) (o := 6) (.inl rfl) b
  have h3 := h2.set_ (a := g) (o := 7) (.inl rfl) c
  exact h3.set_ (a := g) (o := 8) (.inl rfl) d
set_option maxRecDepth 100000 in
set_option maxHeartbeats 64000000 in
theorem filter_walk (A B : Option Addr) (n c m d : Nat) (L M : List ByteArray) (q : QZ) (w : World) (hL : StrsIn w A n c L) (hM : StrsIn w B m d M) (hq : QIn w q) :
    Calls Try.prog 5 #[.agg #[.slice A n c, .slice B m d], .agg #[.slice q.tA q.tn q.tc, .int .i64 q.frm, .int .i64 q.upto, .int .i64 q.every, .slice q.bA q.bn q.bc, .int .i64 q.f.op, .string q.f.dim, .string q.f.val, .slice q.f.A q.f.n q.f.c, .slice q.hA q.hn q.hc, .int .i64 q.order, .int .i64 q.limit]] w fun e w' => e = .returned (.bool true) ∧ Below w.heap.size w w' := by
  obtain ⟨w1, hw1⟩ : ∃ w1, w1 = (w.alloc (.cells #[.slice A n c, .slice B m d] 24)).alloc (.cells #[.slice q.tA q.tn q.tc, .int .i64 q.frm, .int .i64 q.upto, .int .i64 q.every, .slice q.bA q.bn q.bc, .int .i64 q.f.op, .string q.f.dim, .string q.f.val, .slice q.f.A q.f.n q.f.c, .slice q.hA q.hn q.hc, .int .i64 q.order, .int .i64 q.limit] 32) := ⟨_, rfl⟩
  have hb1 : Below w.heap.size w w1 := by rw [hw1]; exact bpush (bpush (Below.refl _ _) _) _
  have hSB : Blk w1 w.heap.size 24 #[.slice A n c, .slice B m d] := by
    rw [hw1]; exact (Blk.new w 24 #[.slice A n c, .slice B m d]).below (bpush (Below.refl _ _) _)
  have hQB : Blk w1 (w.heap.size + 1) 32 #[.slice q.tA q.tn q.tc, .int .i64 q.frm, .int .i64 q.upto, .int .i64 q.every, .slice q.bA q.bn q.bc, .int .i64 q.f.op, .string q.f.dim, .string q.f.val, .slice q.f.A q.f.n q.f.c, .slice q.hA q.hn q.hc, .int .i64 q.order, .int .i64 q.limit] := by
    have := Blk.new (w.alloc (.cells #[.slice A n c, .slice B m d] 24)) 32 #[.slice q.tA q.tn q.tc, .int .i64 q.frm, .int .i64 q.upto, .int .i64 q.every, .slice q.bA q.bn q.bc, .int .i64 q.f.op, .string q.f.dim, .string q.f.val, .slice q.f.A q.f.n q.f.c, .slice q.hA q.hn q.hc, .int .i64 q.order, .int .i64 q.limit]
    rw [hw1]; simpa using this
  obtain ⟨S, hSe⟩ : ∃ S, S = w.heap.size := ⟨_, rfl⟩
  obtain ⟨Q, hQe⟩ : ∃ Q, Q = w.heap.size + 1 := ⟨_, rfl⟩
  rw [← hSe] at hSB
  rw [← hQe] at hQB
  have HB1 := Lib.hid hb1
  have HSB := Lib.hid hSB
  have HQB := Lib.hid hQB
  have HW1 := Lib.hid hw1
  have HSE := Lib.hid hSe
  have HQE := Lib.hid hQe
  have HL := Lib.hid (hL.keep (Nat.le_refl _) hb1)
  have HM := Lib.hid (hM.keep (Nat.le_refl _) hb1)
  have HQ := Lib.hid (hq.keep (Nat.le_refl _) hb1)
  have HFT := Lib.hid (fitsQ_any A B n c m d L M q w1 HL.out HM.out HQ.out.by_ HQ.out.f HQ.out.tmax HQ.out.hmax)
  have HAL := Lib.hid (fun W => alive_any W)
  have HCK := Lib.hid (fun W (hW : Below w1.heap.size w1 W) => check_any A B n c m d L M q W (HL.out.keep (Nat.le_refl _) hW) (HM.out.keep (Nat.le_refl _) hW) (HQ.out.keep (Nat.le_refl _) hW))
  have HDP := Lib.hid (fun (hd : q.f.depth ≤ 1000000) W (hW : Below w1.heap.size w1 W) => depth_any q.f W (FIn.keep q.f HQ.out.f (Nat.le_refl _) hW) hd)
  obtain ⟨ck, hck⟩ : ∃ x, x = checkS L M q := ⟨_, rfl⟩
  rw [← hck] at HCK
  have HCKE := Lib.hid hck
  obtain ⟨c0, c1, c2, c3, c4, c5, c6, c7, c8, c9, c10, c11⟩ := q_cells hQB
  obtain ⟨s0, s1⟩ := s_cells hSB
  clear hw1 hb1 hSB hQB hL hM hq hSe hQe hck
  go_enter Try.func5, Try.ntmps5
  go_upto_region 1 with fail
  rw [← HW1.out, ← HQE.out, ← HSE.out]
  go_upto_region 2 with (go_at_call 6; refine HFT.out.mono ?_; rintro e w2 ⟨⟨r, rfl, hr⟩, hb⟩; have HR := Lib.hid hr; have HB2 := Lib.hid hb; clear hr hb)
  clear c0 c1 c2 c3 c4 c5 c6 c7 c8 c9 c10 c11 s0 s1
  obtain ⟨c0, c1, c2, c3, c4, c5, c6, c7, c8, c9, c10, c11⟩ := q_cells (HQB.out.below HB2.out)
  obtain ⟨s0, s1⟩ := s_cells (HSB.out.below HB2.out)
  cases r with
  | false =>
    go_wp2_with (go_at_call 7; refine (HAL.out _).mono ?_; rintro e w3 ⟨rfl, hb⟩; have HB3 := Lib.hid (bthen HB2.out hb); clear hb)
    go_ret
    exact ⟨rfl, bthen HB1.out HB3.out⟩
  | true =>
  have HFQ := Lib.hid (HR.out rfl)
  by_cases h0 : ck = 0
  case neg =>
    have h0b : (ck == 0) = false := by simp [h0]
    have h0c : (ck != 0) = true := by simp [h0]
    go_wp2_with (first
      | (go_at_call 7; refine (HAL.out _).mono ?_; rintro e w4 ⟨rfl, hb⟩; have HB4 := Lib.hid (bthen HB3.out hb); clear hb)
      | (go_at_call 8; refine (HCK.out _ HB2.out).mono ?_; rintro e w3 ⟨rfl, hb⟩; have HB3 := Lib.hid (bthen HB2.out hb); clear hb))
    go_ret
    exact ⟨rfl, bthen HB1.out HB4.out⟩
  subst h0
  by_cases o0 : q.f.op = 0
  · have HO0 := Lib.hid o0
    clear o0
    go_wp2_with (first
      | (go_at_call 7; refine (HAL.out _).mono ?_; rintro e w4 ⟨rfl, hb⟩; have HB4 := Lib.hid (bthen HB3.out hb); clear hb)
      | (go_at_call 8; refine (HCK.out _ HB2.out).mono ?_; rintro e w3 ⟨rfl, hb⟩; have HB3 := Lib.hid (bthen HB2.out hb); obtain ⟨d0, d1, d2, d3, d4, d5, d6, d7, d8, d9, d10, d11⟩ := q_cells (HQB.out.below HB3.out); rw [HO0.out] at d5; clear hb))
    go_ret
    exact ⟨rfl, bthen HB1.out HB4.out⟩
  have o0b : (q.f.op == 0) = false := by simp [o0]
  have HO0 := Lib.hid o0
  clear o0
  have HDX := Lib.hid (HDP.out (by have := HFQ.out.deep; omega))
  obtain ⟨dp, hdp⟩ : ∃ x, x = q.f.depth := ⟨_, rfl⟩
  rw [← hdp] at HDX
  have HDE := Lib.hid hdp
  clear hdp
  by_cases h28 : 28 < dp
  · have h28z : (28 : Int) < (dp : Int) := by omega
    go_wp2_with (first
      | (go_at_call 7; refine (HAL.out _).mono ?_; rintro e w4 ⟨rfl, hb⟩; have HB4 := Lib.hid (bthen HB5.out hb); clear hb)
      | (go_at_call 15; refine (HDX.out _ HB3.out).mono ?_; rintro e w5 ⟨rfl, hb⟩; have HB5 := Lib.hid (bthen HB3.out hb); clear hb)
      | (go_at_call 8; refine (HCK.out _ HB2.out).mono ?_; rintro e w3 ⟨rfl, hb⟩; have HB3 := Lib.hid (bthen HB2.out hb); obtain ⟨d0, d1, d2, d3, d4, d5, d6, d7, d8, d9, d10, d11⟩ := q_cells (HQB.out.below HB3.out); clear hb))
    go_ret
    exact ⟨rfl, bthen HB1.out HB4.out⟩
  have h28z : ¬ (28 : Int) < (dp : Int) := by omega
  go_upto_region 4 with (first
      | (go_at_call 15; refine (HDX.out _ HB3.out).mono ?_; rintro e w5 ⟨rfl, hb⟩; have HB5 := Lib.hid (bthen HB3.out hb); clear hb)
      | (go_at_call 8; refine (HCK.out _ HB2.out).mono ?_; rintro e w3 ⟨rfl, hb⟩; have HB3 := Lib.hid (bthen HB2.out hb); obtain ⟨d0, d1, d2, d3, d4, d5, d6, d7, d8, d9, d10, d11⟩ := q_cells (HQB.out.below HB3.out); clear hb))
  clear c0 c1 c2 c3 c4 c5 c6 c7 c8 c9 c10 c11 s0 s1 d0 d1 d2 d3 d4 d5 d6 d7 d8 d9 d10 d11 o0b h28z
  obtain ⟨c0, c1, c2, c3, c4, c5, c6, c7, c8, c9, c10, c11⟩ := q_cells (HQB.out.below HB5.out)
  obtain ⟨s0, s1⟩ := s_cells (HSB.out.below HB5.out)
  have HUS := Lib.hid (used_any A B n c m d L M q w5 (HL.out.keep (Nat.le_refl _) HB5.out) (HQ.out.keep (Nat.le_refl _) HB5.out) (by have := HFQ.out.fb.1; have := HQ.out.by_.len; omega) (by
    have h1 := leaves_le q.f
    have := HFQ.out.tot
    omega) (by have := HFQ.out.fl.1; have := HL.out.len; omega))
  obtain ⟨U, hU⟩ : ∃ U, U = usedL L (usedK q) := ⟨_, rfl⟩
  have HUS2 := Lib.hid (show Calls Try.prog 11 #[.agg #[.slice A n c, .slice B m d], .agg #[.slice q.tA q.tn q.tc, .int .i64 q.frm, .int .i64 q.upto, .int .i64 q.every, .slice q.bA q.bn q.bc, .int .i64 q.f.op, .string q.f.dim, .string q.f.val, .slice q.f.A q.f.n q.f.c, .slice q.hA q.hn q.hc, .int .i64 q.order, .int .i64 q.limit]] w5 (TextsP w5 U) from by rw [hU]; exact HUS.out)
  have HUU := Lib.hid hU
  have HULL := Lib.hid (show U.length ≤ 20 by rw [hU]; exact Nat.le_trans (List.length_filter_le _ _) HFQ.out.fl.1)
  clear HUS hU
  go_upto_region 5 with (go_at_call 11; refine HUS2.out.mono ?_; rintro e w4 ⟨v4, rfl, ho, hb⟩; have HB4 := Lib.hid (bthen HB5.out hb); have HO4 := Lib.hid ho; obtain ⟨A4, c4', rfl, hr4, hc4, hn4⟩ := own_slice ho; have HR4 := Lib.hid hr4; have HC4 := Lib.hid hc4; have HN4 := Lib.hid hn4; clear ho hb hr4 hc4 hn4)
  clear c0 c1 c2 c3 c4 c5 c6 c7 c8 c9 c10 c11 s0 s1
  obtain ⟨c0, c1, c2, c3, c4, c5, c6, c7, c8, c9, c10, c11⟩ := q_cells (HQB.out.below HB4.out)
  obtain ⟨s0, s1⟩ := s_cells (HSB.out.below HB4.out)
  have HST := Lib.hid (show StrsIn w4 A4 U.length c4' U from ⟨HR4.out, rfl, HC4.out, HN4.out, by have := HULL.out; omega⟩)
  obtain ⟨u, hu⟩ : ∃ u, u = U.length := ⟨_, rfl⟩
  rw [← hu] at HST HULL HC4 HO4 ⊢
  have HU := Lib.hid hu
  clear hu
  obtain ⟨wa, hwa⟩ : ∃ w, w = w4.alloc (.cells #[.slice q.tA q.tn q.tc, .int .i64 q.frm, .int .i64 q.upto, .int .i64 q.every, .slice q.bA q.bn q.bc, .int .i64 q.f.op, .string q.f.dim, .string q.f.val, .slice q.f.A q.f.n q.f.c, .slice q.hA q.hn q.hc, .int .i64 q.order, .int .i64 q.limit] 32) := ⟨_, rfl⟩
  have hba : Below w4.heap.size w4 wa := by rw [hwa]; exact bpush (Below.refl _ _) _
  have hka : Blk wa w4.heap.size 32 #[.slice q.tA q.tn q.tc, .int .i64 q.frm, .int .i64 q.upto, .int .i64 q.every, .slice q.bA q.bn q.bc, .int .i64 q.f.op, .string q.f.dim, .string q.f.val, .slice q.f.A q.f.n q.f.c, .slice q.hA q.hn q.hc, .int .i64 q.order, .int .i64 q.limit] := by rw [hwa]; exact Blk.new _ _ _
  obtain ⟨ab, hxa⟩ : ∃ a, a = w4.heap.size := ⟨_, rfl⟩
  rw [← hxa] at hka
  have HFwa := Lib.hid (show Below w4.heap.size w4 wa from (Below.refl _ _).trans (hba.mono (Below.refl _ _ : Below w4.heap.size w4 w4).size))
  have HWa := Lib.hid hwa
  have HXa := Lib.hid hxa
  have HKa := Lib.hid hka
  have hlta : ab < wa.heap.size := hka.lt
  have hnea : ¬ ab = wa.heap.size := by omega
  have hgea : w4.heap.size ≤ ab := by rw [hxa]; exact (Below.refl _ _ : Below w4.heap.size w4 w4).size
  have hfza := fun j => hka.frozen j
  clear hwa hba hxa
  go_upto_region 6 with fail
  rw [← HWa.out, ← HXa.out]
  clear c0 c1 c2 c3 c4 c5 c6 c7 c8 c9 c10 c11 s0 s1
  obtain ⟨c0, c1, c2, c3, c4, c5, c6, c7, c8, c9, c10, c11⟩ := q_cells (HQB.out.below (bthen HB4.out HFwa.out))
  have e0 : wa.cell? ⟨ab, 0, none⟩ = some (.slice q.tA q.tn q.tc) := by rw [hka.cell 0]; rfl
  have e1 : wa.cell? ⟨ab, 1, none⟩ = some (.int .i64 q.frm) := by rw [hka.cell 1]; rfl
  have e2 : wa.cell? ⟨ab, 2, none⟩ = some (.int .i64 q.upto) := by rw [hka.cell 2]; rfl
  have e3 : wa.cell? ⟨ab, 3, none⟩ = some (.int .i64 q.every) := by rw [hka.cell 3]; rfl
  have e4 : wa.cell? ⟨ab, 4, none⟩ = some (.slice q.bA q.bn q.bc) := by rw [hka.cell 4]; rfl
  have e5 : wa.cell? ⟨ab, 5, none⟩ = some (.int .i64 q.f.op) := by rw [hka.cell 5]; rfl
  have e6 : wa.cell? ⟨ab, 6, none⟩ = some (.string q.f.dim) := by rw [hka.cell 6]; rfl
  have e7 : wa.cell? ⟨ab, 7, none⟩ = some (.string q.f.val) := by rw [hka.cell 7]; rfl
  have e8 : wa.cell? ⟨ab, 8, none⟩ = some (.slice q.f.A q.f.n q.f.c) := by rw [hka.cell 8]; rfl
  have e9 : wa.cell? ⟨ab, 9, none⟩ = some (.slice q.hA q.hn q.hc) := by rw [hka.cell 9]; rfl
  have e10 : wa.cell? ⟨ab, 10, none⟩ = some (.int .i64 q.order) := by rw [hka.cell 10]; rfl
  have e11 : wa.cell? ⟨ab, 11, none⟩ = some (.int .i64 q.limit) := by rw [hka.cell 11]; rfl
  clear hka
  go_upto_region 7 with fail
  clear e0 e1 e2 e3 e4 e5 e6 e7 e8 e9 e10 e11 hfza
  obtain ⟨wa2, hwa2⟩ : ∃ w, w = (((((wa.setCell ⟨ab, 5, none⟩ (.int .i64 3)).setCell ⟨ab, 6, none⟩ (.string ⟨#[]⟩)).setCell ⟨ab, 7, none⟩ (.string ⟨#[]⟩)).setCell ⟨ab, 8, none⟩ (.slice (some ⟨wa.heap.size, 0, none⟩) 1 1)).alloc (.cells #[.int .i64 q.f.op, .string q.f.dim, .string q.f.val, .slice q.f.A q.f.n q.f.c] 29)) := ⟨_, rfl⟩
  have hsa : Blk ((((wa.setCell ⟨ab, 5, none⟩ (.int .i64 3)).setCell ⟨ab, 6, none⟩ (.string ⟨#[]⟩)).setCell ⟨ab, 7, none⟩ (.string ⟨#[]⟩)).setCell ⟨ab, 8, none⟩ (.slice (some ⟨wa.heap.size, 0, none⟩) 1 1)) ab 32 #[.slice q.tA q.tn q.tc, .int .i64 q.frm, .int .i64 q.upto, .int .i64 q.every, .slice q.bA q.bn q.bc, .int .i64 3, .string ⟨#[]⟩, .string ⟨#[]⟩, .slice (some ⟨wa.heap.size, 0, none⟩) 1 1, .slice q.hA q.hn q.hc, .int .i64 q.order, .int .i64 q.limit] := (((HKa.out.set_ 5 _).set_ 6 _).set_ 7 _).set_ 8 _
  have hfra : Fr (fun i => i = ab) wa ((((wa.setCell ⟨ab, 5, none⟩ (.int .i64 3)).setCell ⟨ab, 6, none⟩ (.string ⟨#[]⟩)).setCell ⟨ab, 7, none⟩ (.string ⟨#[]⟩)).setCell ⟨ab, 8, none⟩ (.slice (some ⟨wa.heap.size, 0, none⟩) 1 1)) := fr_four _ _ _ _ _ _
  have hbsa : Below ((((wa.setCell ⟨ab, 5, none⟩ (.int .i64 3)).setCell ⟨ab, 6, none⟩ (.string ⟨#[]⟩)).setCell ⟨ab, 7, none⟩ (.string ⟨#[]⟩)).setCell ⟨ab, 8, none⟩ (.slice (some ⟨wa.heap.size, 0, none⟩) 1 1)).heap.size ((((wa.setCell ⟨ab, 5, none⟩ (.int .i64 3)).setCell ⟨ab, 6, none⟩ (.string ⟨#[]⟩)).setCell ⟨ab, 7, none⟩ (.string ⟨#[]⟩)).setCell ⟨ab, 8, none⟩ (.slice (some ⟨wa.heap.size, 0, none⟩) 1 1)) wa2 := by rw [hwa2]; exact bpush (Below.refl _ _) _
  have hkka : Blk wa2 wa.heap.size 29 #[.int .i64 q.f.op, .string q.f.dim, .string q.f.val, .slice q.f.A q.f.n q.f.c] := by
    have h := Blk.new ((((wa.setCell ⟨ab, 5, none⟩ (.int .i64 3)).setCell ⟨ab, 6, none⟩ (.string ⟨#[]⟩)).setCell ⟨ab, 7, none⟩ (.string ⟨#[]⟩)).setCell ⟨ab, 8, none⟩ (.slice (some ⟨wa.heap.size, 0, none⟩) 1 1)) 29 #[.int .i64 q.f.op, .string q.f.dim, .string q.f.val, .slice q.f.A q.f.n q.f.c]
    rw [hwa2]; simpa using h
  have hkxa := hsa.below hbsa
  have hfta : Fr (fun i => i = ab) wa wa2 := hfra.trans (Fr.of_below hbsa)
  have HFwa2 := Lib.hid (show Below w4.heap.size w4 wa2 from HFwa.out.trans (hfta.below HFwa.out.size (fun i hi => by rw [hi]; exact hgea)))
  obtain ⟨Ka, hKa⟩ : ∃ a, a = wa.heap.size := ⟨_, rfl⟩
  rw [← hKa] at hkka hkxa hwa2
  have HKEa := Lib.hid hKa
  have HKKa := Lib.hid hkka
  have HWa2 := Lib.hid hwa2
  have HKa := Lib.hid hkxa
  have hlt_a : ab < wa2.heap.size := hkxa.lt
  have hlt_Ka : Ka < wa2.heap.size := hkka.lt
  rw [← HKEa.out, ← HWa2.out]
  clear hwa2 hsa hfra hbsa hkxa hfta hlta hnea hgea hKa hkka
  clear c0 c1 c2 c3 c4 c5 c6 c7 c8 c9 c10 c11
  obtain ⟨c0, c1, c2, c3, c4, c5, c6, c7, c8, c9, c10, c11⟩ := q_cells (HQB.out.below (bthen HB4.out HFwa2.out))
  obtain ⟨wb, hwb⟩ : ∃ w, w = wa2.alloc (.cells #[.slice q.tA q.tn q.tc, .int .i64 q.frm, .int .i64 q.upto, .int .i64 q.every, .slice q.bA q.bn q.bc, .int .i64 q.f.op, .string q.f.dim, .string q.f.val, .slice q.f.A q.f.n q.f.c, .slice q.hA q.hn q.hc, .int .i64 q.order, .int .i64 q.limit] 32) := ⟨_, rfl⟩
  have hbb : Below wa2.heap.size wa2 wb := by rw [hwb]; exact bpush (Below.refl _ _) _
  have hkb : Blk wb wa2.heap.size 32 #[.slice q.tA q.tn q.tc, .int .i64 q.frm, .int .i64 q.upto, .int .i64 q.every, .slice q.bA q.bn q.bc, .int .i64 q.f.op, .string q.f.dim, .string q.f.val, .slice q.f.A q.f.n q.f.c, .slice q.hA q.hn q.hc, .int .i64 q.order, .int .i64 q.limit] := by rw [hwb]; exact Blk.new _ _ _
  obtain ⟨bb, hxb⟩ : ∃ a, a = wa2.heap.size := ⟨_, rfl⟩
  rw [← hxb] at hkb
  have HNab := Lib.hid (show ¬ ab = bb from by have h1 := HKa.out.lt; omega)
  have HNKab := Lib.hid (show ¬ Ka = bb from by have h1 := HKKa.out.lt; omega)
  have HFwb := Lib.hid (show Below w4.heap.size w4 wb from (HFwa2.out).trans (hbb.mono (HFwa2.out : Below w4.heap.size w4 wa2).size))
  have HWb := Lib.hid hwb
  have HXb := Lib.hid hxb
  have HKb := Lib.hid hkb
  have hltb : bb < wb.heap.size := hkb.lt
  have hneb : ¬ bb = wb.heap.size := by omega
  have hgeb : w4.heap.size ≤ bb := by rw [hxb]; exact (HFwa2.out : Below w4.heap.size w4 wa2).size
  have hfzb := fun j => hkb.frozen j
  have hka := (HKa.out).below hbb
  have HKa := Lib.hid hka
  have hkKa := (HKKa.out).below hbb
  have HKKa := Lib.hid hkKa
  clear hwb hbb hxb
  go_upto_region 8 with fail
  rw [← HWb.out, ← HXb.out]
  clear c0 c1 c2 c3 c4 c5 c6 c7 c8 c9 c10 c11
  obtain ⟨c0, c1, c2, c3, c4, c5, c6, c7, c8, c9, c10, c11⟩ := q_cells (HQB.out.below (bthen HB4.out HFwb.out))
  have e0 : wb.cell? ⟨bb, 0, none⟩ = some (.slice q.tA q.tn q.tc) := by rw [hkb.cell 0]; rfl
  have e1 : wb.cell? ⟨bb, 1, none⟩ = some (.int .i64 q.frm) := by rw [hkb.cell 1]; rfl
  have e2 : wb.cell? ⟨bb, 2, none⟩ = some (.int .i64 q.upto) := by rw [hkb.cell 2]; rfl
  have e3 : wb.cell? ⟨bb, 3, none⟩ = some (.int .i64 q.every) := by rw [hkb.cell 3]; rfl
  have e4 : wb.cell? ⟨bb, 4, none⟩ = some (.slice q.bA q.bn q.bc) := by rw [hkb.cell 4]; rfl
  have e5 : wb.cell? ⟨bb, 5, none⟩ = some (.int .i64 q.f.op) := by rw [hkb.cell 5]; rfl
  have e6 : wb.cell? ⟨bb, 6, none⟩ = some (.string q.f.dim) := by rw [hkb.cell 6]; rfl
  have e7 : wb.cell? ⟨bb, 7, none⟩ = some (.string q.f.val) := by rw [hkb.cell 7]; rfl
  have e8 : wb.cell? ⟨bb, 8, none⟩ = some (.slice q.f.A q.f.n q.f.c) := by rw [hkb.cell 8]; rfl
  have e9 : wb.cell? ⟨bb, 9, none⟩ = some (.slice q.hA q.hn q.hc) := by rw [hkb.cell 9]; rfl
  have e10 : wb.cell? ⟨bb, 10, none⟩ = some (.int .i64 q.order) := by rw [hkb.cell 10]; rfl
  have e11 : wb.cell? ⟨bb, 11, none⟩ = some (.int .i64 q.limit) := by rw [hkb.cell 11]; rfl
  have g0 : wb.cell? ⟨ab, 0, none⟩ = some (.slice q.tA q.tn q.tc) := by rw [hka.cell 0]; rfl
  have g1 : wb.cell? ⟨ab, 1, none⟩ = some (.int .i64 q.frm) := by rw [hka.cell 1]; rfl
  have g2 : wb.cell? ⟨ab, 2, none⟩ = some (.int .i64 q.upto) := by rw [hka.cell 2]; rfl
  have g3 : wb.cell? ⟨ab, 3, none⟩ = some (.int .i64 q.every) := by rw [hka.cell 3]; rfl
  have g4 : wb.cell? ⟨ab, 4, none⟩ = some (.slice q.bA q.bn q.bc) := by rw [hka.cell 4]; rfl
  have g5 : wb.cell? ⟨ab, 5, none⟩ = some (.int .i64 3) := by rw [hka.cell 5]; rfl
  have g6 : wb.cell? ⟨ab, 6, none⟩ = some (.string ⟨#[]⟩) := by rw [hka.cell 6]; rfl
  have g7 : wb.cell? ⟨ab, 7, none⟩ = some (.string ⟨#[]⟩) := by rw [hka.cell 7]; rfl
  have g8 : wb.cell? ⟨ab, 8, none⟩ = some (.slice (some ⟨Ka, 0, none⟩) 1 1) := by rw [hka.cell 8]; rfl
  have g9 : wb.cell? ⟨ab, 9, none⟩ = some (.slice q.hA q.hn q.hc) := by rw [hka.cell 9]; rfl
  have g10 : wb.cell? ⟨ab, 10, none⟩ = some (.int .i64 q.order) := by rw [hka.cell 10]; rfl
  have g11 : wb.cell? ⟨ab, 11, none⟩ = some (.int .i64 q.limit) := by rw [hka.cell 11]; rfl
  clear hkb hka hkKa
  go_upto_region 9 with fail
  clear e0 e1 e2 e3 e4 e5 e6 e7 e8 e9 e10 e11 g0 g1 g2 g3 g4 g5 g6 g7 g8 g9 g10 g11 hfzb
  obtain ⟨wb2, hwb2⟩ : ∃ w, w = (((((wb.setCell ⟨bb, 5, none⟩ (.int .i64 5)).setCell ⟨bb, 6, none⟩ (.string ⟨#[]⟩)).setCell ⟨bb, 7, none⟩ (.string ⟨#[]⟩)).setCell ⟨bb, 8, none⟩ (.slice (some ⟨wb.heap.size, 0, none⟩) 2 2)).alloc (.cells #[.int .i64 q.f.op, .string q.f.dim, .string q.f.val, .slice q.f.A q.f.n q.f.c, .int .i64 3, .string ⟨#[]⟩, .string ⟨#[]⟩, .slice (some ⟨Ka, 0, none⟩) 1 1] 29)) := ⟨_, rfl⟩
  have hsb : Blk ((((wb.setCell ⟨bb, 5, none⟩ (.int .i64 5)).setCell ⟨bb, 6, none⟩ (.string ⟨#[]⟩)).setCell ⟨bb, 7, none⟩ (.string ⟨#[]⟩)).setCell ⟨bb, 8, none⟩ (.slice (some ⟨wb.heap.size, 0, none⟩) 2 2)) bb 32 #[.slice q.tA q.tn q.tc, .int .i64 q.frm, .int .i64 q.upto, .int .i64 q.every, .slice q.bA q.bn q.bc, .int .i64 5, .string ⟨#[]⟩, .string ⟨#[]⟩, .slice (some ⟨wb.heap.size, 0, none⟩) 2 2, .slice q.hA q.hn q.hc, .int .i64 q.order, .int .i64 q.limit] := (((HKb.out.set_ 5 _).set_ 6 _).set_ 7 _).set_ 8 _
  have hfrb : Fr (fun i => i = bb) wb ((((wb.setCell ⟨bb, 5, none⟩ (.int .i64 5)).setCell ⟨bb, 6, none⟩ (.string ⟨#[]⟩)).setCell ⟨bb, 7, none⟩ (.string ⟨#[]⟩)).setCell ⟨bb, 8, none⟩ (.slice (some ⟨wb.heap.size, 0, none⟩) 2 2)) := fr_four _ _ _ _ _ _
  have hbsb : Below ((((wb.setCell ⟨bb, 5, none⟩ (.int .i64 5)).setCell ⟨bb, 6, none⟩ (.string ⟨#[]⟩)).setCell ⟨bb, 7, none⟩ (.string ⟨#[]⟩)).setCell ⟨bb, 8, none⟩ (.slice (some ⟨wb.heap.size, 0, none⟩) 2 2)).heap.size ((((wb.setCell ⟨bb, 5, none⟩ (.int .i64 5)).setCell ⟨bb, 6, none⟩ (.string ⟨#[]⟩)).setCell ⟨bb, 7, none⟩ (.string ⟨#[]⟩)).setCell ⟨bb, 8, none⟩ (.slice (some ⟨wb.heap.size, 0, none⟩) 2 2)) wb2 := by rw [hwb2]; exact bpush (Below.refl _ _) _
  have hkkb : Blk wb2 wb.heap.size 29 #[.int .i64 q.f.op, .string q.f.dim, .string q.f.val, .slice q.f.A q.f.n q.f.c, .int .i64 3, .string ⟨#[]⟩, .string ⟨#[]⟩, .slice (some ⟨Ka, 0, none⟩) 1 1] := by
    have h := Blk.new ((((wb.setCell ⟨bb, 5, none⟩ (.int .i64 5)).setCell ⟨bb, 6, none⟩ (.string ⟨#[]⟩)).setCell ⟨bb, 7, none⟩ (.string ⟨#[]⟩)).setCell ⟨bb, 8, none⟩ (.slice (some ⟨wb.heap.size, 0, none⟩) 2 2)) 29 #[.int .i64 q.f.op, .string q.f.dim, .string q.f.val, .slice q.f.A q.f.n q.f.c, .int .i64 3, .string ⟨#[]⟩, .string ⟨#[]⟩, .slice (some ⟨Ka, 0, none⟩) 1 1]
    rw [hwb2]; simpa using h
  have hkxb := hsb.below hbsb
  have hftb : Fr (fun i => i = bb) wb wb2 := hfrb.trans (Fr.of_below hbsb)
  have HFwb2 := Lib.hid (show Below w4.heap.size w4 wb2 from HFwb.out.trans (hftb.below HFwb.out.size (fun i hi => by rw [hi]; exact hgeb)))
  have HKa := Lib.hid (hftb.blk HKa.out HNab.out)
  have HKKa := Lib.hid (hftb.blk HKKa.out HNKab.out)
  obtain ⟨Kb, hKb⟩ : ∃ a, a = wb.heap.size := ⟨_, rfl⟩
  rw [← hKb] at hkkb hkxb hwb2
  have HKEb := Lib.hid hKb
  have HKKb := Lib.hid hkkb
  have HWb2 := Lib.hid hwb2
  have HKb := Lib.hid hkxb
  have hlt_b : bb < wb2.heap.size := hkxb.lt
  have hlt_Kb : Kb < wb2.heap.size := hkkb.lt
  rw [← HKEb.out, ← HWb2.out]
  clear hwb2 hsb hfrb hbsb hkxb hftb hltb hneb hgeb hKb hkkb
  clear c0 c1 c2 c3 c4 c5 c6 c7 c8 c9 c10 c11
  obtain ⟨c0, c1, c2, c3, c4, c5, c6, c7, c8, c9, c10, c11⟩ := q_cells (HQB.out.below (bthen HB4.out HFwb2.out))
  obtain ⟨wc, hwc⟩ : ∃ w, w = wb2.alloc (.cells #[.slice q.tA q.tn q.tc, .int .i64 q.frm, .int .i64 q.upto, .int .i64 q.every, .slice q.bA q.bn q.bc, .int .i64 q.f.op, .string q.f.dim, .string q.f.val, .slice q.f.A q.f.n q.f.c, .slice q.hA q.hn q.hc, .int .i64 q.order, .int .i64 q.limit] 32) := ⟨_, rfl⟩
  have hbc : Below wb2.heap.size wb2 wc := by rw [hwc]; exact bpush (Below.refl _ _) _
  have hkc : Blk wc wb2.heap.size 32 #[.slice q.tA q.tn q.tc, .int .i64 q.frm, .int .i64 q.upto, .int .i64 q.every, .slice q.bA q.bn q.bc, .int .i64 q.f.op, .string q.f.dim, .string q.f.val, .slice q.f.A q.f.n q.f.c, .slice q.hA q.hn q.hc, .int .i64 q.order, .int .i64 q.limit] := by rw [hwc]; exact Blk.new _ _ _
  obtain ⟨cb, hxc⟩ : ∃ a, a = wb2.heap.size := ⟨_, rfl⟩
  rw [← hxc] at hkc
  have HNac := Lib.hid (show ¬ ab = cb from by have h1 := HKa.out.lt; omega)
  have HNKac := Lib.hid (show ¬ Ka = cb from by have h1 := HKKa.out.lt; omega)
  have HNbc := Lib.hid (show ¬ bb = cb from by have h1 := HKb.out.lt; omega)
  have HNKbc := Lib.hid (show ¬ Kb = cb from by have h1 := HKKb.out.lt; omega)
  have HFwc := Lib.hid (show Below w4.heap.size w4 wc from (HFwb2.out).trans (hbc.mono (HFwb2.out : Below w4.heap.size w4 wb2).size))
  have HWc := Lib.hid hwc
  have HXc := Lib.hid hxc
  have HKc := Lib.hid hkc
  have hltc : cb < wc.heap.size := hkc.lt
  have hnec : ¬ cb = wc.heap.size := by omega
  have hgec : w4.heap.size ≤ cb := by rw [hxc]; exact (HFwb2.out : Below w4.heap.size w4 wb2).size
  have hfzc := fun j => hkc.frozen j
  have hka := (HKa.out).below hbc
  have HKa := Lib.hid hka
  have hkKa := (HKKa.out).below hbc
  have HKKa := Lib.hid hkKa
  have hkb := (HKb.out).below hbc
  have HKb := Lib.hid hkb
  have hkKb := (HKKb.out).below hbc
  have HKKb := Lib.hid hkKb
  clear hwc hbc hxc
  go_upto_region 10 with fail
  rw [← HWc.out, ← HXc.out]
  clear c0 c1 c2 c3 c4 c5 c6 c7 c8 c9 c10 c11
  obtain ⟨c0, c1, c2, c3, c4, c5, c6, c7, c8, c9, c10, c11⟩ := q_cells (HQB.out.below (bthen HB4.out HFwc.out))
  have e0 : wc.cell? ⟨cb, 0, none⟩ = some (.slice q.tA q.tn q.tc) := by rw [hkc.cell 0]; rfl
  have e1 : wc.cell? ⟨cb, 1, none⟩ = some (.int .i64 q.frm) := by rw [hkc.cell 1]; rfl
  have e2 : wc.cell? ⟨cb, 2, none⟩ = some (.int .i64 q.upto) := by rw [hkc.cell 2]; rfl
  have e3 : wc.cell? ⟨cb, 3, none⟩ = some (.int .i64 q.every) := by rw [hkc.cell 3]; rfl
  have e4 : wc.cell? ⟨cb, 4, none⟩ = some (.slice q.bA q.bn q.bc) := by rw [hkc.cell 4]; rfl
  have e5 : wc.cell? ⟨cb, 5, none⟩ = some (.int .i64 q.f.op) := by rw [hkc.cell 5]; rfl
  have e6 : wc.cell? ⟨cb, 6, none⟩ = some (.string q.f.dim) := by rw [hkc.cell 6]; rfl
  have e7 : wc.cell? ⟨cb, 7, none⟩ = some (.string q.f.val) := by rw [hkc.cell 7]; rfl
  have e8 : wc.cell? ⟨cb, 8, none⟩ = some (.slice q.f.A q.f.n q.f.c) := by rw [hkc.cell 8]; rfl
  have e9 : wc.cell? ⟨cb, 9, none⟩ = some (.slice q.hA q.hn q.hc) := by rw [hkc.cell 9]; rfl
  have e10 : wc.cell? ⟨cb, 10, none⟩ = some (.int .i64 q.order) := by rw [hkc.cell 10]; rfl
  have e11 : wc.cell? ⟨cb, 11, none⟩ = some (.int .i64 q.limit) := by rw [hkc.cell 11]; rfl
  clear hkc hka hkKa hkb hkKb
  go_upto_region 11 with fail
  clear e0 e1 e2 e3 e4 e5 e6 e7 e8 e9 e10 e11 hfzc
  obtain ⟨wc2, hwc2⟩ : ∃ w, w = (((((wc.setCell ⟨cb, 5, none⟩ (.int .i64 4)).setCell ⟨cb, 6, none⟩ (.string ⟨#[]⟩)).setCell ⟨cb, 7, none⟩ (.string ⟨#[]⟩)).setCell ⟨cb, 8, none⟩ (.slice (some ⟨wc.heap.size, 0, none⟩) 1 1)).alloc (.cells #[.int .i64 q.f.op, .string q.f.dim, .string q.f.val, .slice q.f.A q.f.n q.f.c] 29)) := ⟨_, rfl⟩
  have hsc : Blk ((((wc.setCell ⟨cb, 5, none⟩ (.int .i64 4)).setCell ⟨cb, 6, none⟩ (.string ⟨#[]⟩)).setCell ⟨cb, 7, none⟩ (.string ⟨#[]⟩)).setCell ⟨cb, 8, none⟩ (.slice (some ⟨wc.heap.size, 0, none⟩) 1 1)) cb 32 #[.slice q.tA q.tn q.tc, .int .i64 q.frm, .int .i64 q.upto, .int .i64 q.every, .slice q.bA q.bn q.bc, .int .i64 4, .string ⟨#[]⟩, .string ⟨#[]⟩, .slice (some ⟨wc.heap.size, 0, none⟩) 1 1, .slice q.hA q.hn q.hc, .int .i64 q.order, .int .i64 q.limit] := (((HKc.out.set_ 5 _).set_ 6 _).set_ 7 _).set_ 8 _
  have hfrc : Fr (fun i => i = cb) wc ((((wc.setCell ⟨cb, 5, none⟩ (.int .i64 4)).setCell ⟨cb, 6, none⟩ (.string ⟨#[]⟩)).setCell ⟨cb, 7, none⟩ (.string ⟨#[]⟩)).setCell ⟨cb, 8, none⟩ (.slice (some ⟨wc.heap.size, 0, none⟩) 1 1)) := fr_four _ _ _ _ _ _
  have hbsc : Below ((((wc.setCell ⟨cb, 5, none⟩ (.int .i64 4)).setCell ⟨cb, 6, none⟩ (.string ⟨#[]⟩)).setCell ⟨cb, 7, none⟩ (.string ⟨#[]⟩)).setCell ⟨cb, 8, none⟩ (.slice (some ⟨wc.heap.size, 0, none⟩) 1 1)).heap.size ((((wc.setCell ⟨cb, 5, none⟩ (.int .i64 4)).setCell ⟨cb, 6, none⟩ (.string ⟨#[]⟩)).setCell ⟨cb, 7, none⟩ (.string ⟨#[]⟩)).setCell ⟨cb, 8, none⟩ (.slice (some ⟨wc.heap.size, 0, none⟩) 1 1)) wc2 := by rw [hwc2]; exact bpush (Below.refl _ _) _
  have hkkc : Blk wc2 wc.heap.size 29 #[.int .i64 q.f.op, .string q.f.dim, .string q.f.val, .slice q.f.A q.f.n q.f.c] := by
    have h := Blk.new ((((wc.setCell ⟨cb, 5, none⟩ (.int .i64 4)).setCell ⟨cb, 6, none⟩ (.string ⟨#[]⟩)).setCell ⟨cb, 7, none⟩ (.string ⟨#[]⟩)).setCell ⟨cb, 8, none⟩ (.slice (some ⟨wc.heap.size, 0, none⟩) 1 1)) 29 #[.int .i64 q.f.op, .string q.f.dim, .string q.f.val, .slice q.f.A q.f.n q.f.c]
    rw [hwc2]; simpa using h
  have hkxc := hsc.below hbsc
  have hftc : Fr (fun i => i = cb) wc wc2 := hfrc.trans (Fr.of_below hbsc)
  have HFwc2 := Lib.hid (show Below w4.heap.size w4 wc2 from HFwc.out.trans (hftc.below HFwc.out.size (fun i hi => by rw [hi]; exact hgec)))
  have HKa := Lib.hid (hftc.blk HKa.out HNac.out)
  have HKKa := Lib.hid (hftc.blk HKKa.out HNKac.out)
  have HKb := Lib.hid (hftc.blk HKb.out HNbc.out)
  have HKKb := Lib.hid (hftc.blk HKKb.out HNKbc.out)
  obtain ⟨Kc, hKc⟩ : ∃ a, a = wc.heap.size := ⟨_, rfl⟩
  rw [← hKc] at hkkc hkxc hwc2
  have HKEc := Lib.hid hKc
  have HKKc := Lib.hid hkkc
  have HWc2 := Lib.hid hwc2
  have HKc := Lib.hid hkxc
  have hlt_c : cb < wc2.heap.size := hkxc.lt
  have hlt_Kc : Kc < wc2.heap.size := hkkc.lt
  rw [← HKEc.out, ← HWc2.out]
  clear hwc2 hsc hfrc hbsc hkxc hftc hltc hnec hgec hKc hkkc
  clear c0 c1 c2 c3 c4 c5 c6 c7 c8 c9 c10 c11
  obtain ⟨c0, c1, c2, c3, c4, c5, c6, c7, c8, c9, c10, c11⟩ := q_cells (HQB.out.below (bthen HB4.out HFwc2.out))
  obtain ⟨wd, hwd⟩ : ∃ w, w = wc2.alloc (.cells #[.slice q.tA q.tn q.tc, .int .i64 q.frm, .int .i64 q.upto, .int .i64 q.every, .slice q.bA q.bn q.bc, .int .i64 q.f.op, .string q.f.dim, .string q.f.val, .slice q.f.A q.f.n q.f.c, .slice q.hA q.hn q.hc, .int .i64 q.order, .int .i64 q.limit] 32) := ⟨_, rfl⟩
  have hbd : Below wc2.heap.size wc2 wd := by rw [hwd]; exact bpush (Below.refl _ _) _
  have hkd : Blk wd wc2.heap.size 32 #[.slice q.tA q.tn q.tc, .int .i64 q.frm, .int .i64 q.upto, .int .i64 q.every, .slice q.bA q.bn q.bc, .int .i64 q.f.op, .string q.f.dim, .string q.f.val, .slice q.f.A q.f.n q.f.c, .slice q.hA q.hn q.hc, .int .i64 q.order, .int .i64 q.limit] := by rw [hwd]; exact Blk.new _ _ _
  obtain ⟨db, hxd⟩ : ∃ a, a = wc2.heap.size := ⟨_, rfl⟩
  rw [← hxd] at hkd
  have HNad := Lib.hid (show ¬ ab = db from by have h1 := HKa.out.lt; omega)
  have HNKad := Lib.hid (show ¬ Ka = db from by have h1 := HKKa.out.lt; omega)
  have HNbd := Lib.hid (show ¬ bb = db from by have h1 := HKb.out.lt; omega)
  have HNKbd := Lib.hid (show ¬ Kb = db from by have h1 := HKKb.out.lt; omega)
  have HNcd := Lib.hid (show ¬ cb = db from by have h1 := HKc.out.lt; omega)
  have HNKcd := Lib.hid (show ¬ Kc = db from by have h1 := HKKc.out.lt; omega)
  have HFwd := Lib.hid (show Below w4.heap.size w4 wd from (HFwc2.out).trans (hbd.mono (HFwc2.out : Below w4.heap.size w4 wc2).size))
  have HWd := Lib.hid hwd
  have HXd := Lib.hid hxd
  have HKd := Lib.hid hkd
  have hltd : db < wd.heap.size := hkd.lt
  have hned : ¬ db = wd.heap.size := by omega
  have hged : w4.heap.size ≤ db := by rw [hxd]; exact (HFwc2.out : Below w4.heap.size w4 wc2).size
  have hfzd := fun j => hkd.frozen j
  have hka := (HKa.out).below hbd
  have HKa := Lib.hid hka
  have hkKa := (HKKa.out).below hbd
  have HKKa := Lib.hid hkKa
  have hkb := (HKb.out).below hbd
  have HKb := Lib.hid hkb
  have hkKb := (HKKb.out).below hbd
  have HKKb := Lib.hid hkKb
  have hkc := (HKc.out).below hbd
  have HKc := Lib.hid hkc
  have hkKc := (HKKc.out).below hbd
  have HKKc := Lib.hid hkKc
  clear hwd hbd hxd
  go_upto_region 12 with fail
  rw [← HWd.out, ← HXd.out]
  clear c0 c1 c2 c3 c4 c5 c6 c7 c8 c9 c10 c11
  obtain ⟨c0, c1, c2, c3, c4, c5, c6, c7, c8, c9, c10, c11⟩ := q_cells (HQB.out.below (bthen HB4.out HFwd.out))
  have e0 : wd.cell? ⟨db, 0, none⟩ = some (.slice q.tA q.tn q.tc) := by rw [hkd.cell 0]; rfl
  have e1 : wd.cell? ⟨db, 1, none⟩ = some (.int .i64 q.frm) := by rw [hkd.cell 1]; rfl
  have e2 : wd.cell? ⟨db, 2, none⟩ = some (.int .i64 q.upto) := by rw [hkd.cell 2]; rfl
  have e3 : wd.cell? ⟨db, 3, none⟩ = some (.int .i64 q.every) := by rw [hkd.cell 3]; rfl
  have e4 : wd.cell? ⟨db, 4, none⟩ = some (.slice q.bA q.bn q.bc) := by rw [hkd.cell 4]; rfl
  have e5 : wd.cell? ⟨db, 5, none⟩ = some (.int .i64 q.f.op) := by rw [hkd.cell 5]; rfl
  have e6 : wd.cell? ⟨db, 6, none⟩ = some (.string q.f.dim) := by rw [hkd.cell 6]; rfl
  have e7 : wd.cell? ⟨db, 7, none⟩ = some (.string q.f.val) := by rw [hkd.cell 7]; rfl
  have e8 : wd.cell? ⟨db, 8, none⟩ = some (.slice q.f.A q.f.n q.f.c) := by rw [hkd.cell 8]; rfl
  have e9 : wd.cell? ⟨db, 9, none⟩ = some (.slice q.hA q.hn q.hc) := by rw [hkd.cell 9]; rfl
  have e10 : wd.cell? ⟨db, 10, none⟩ = some (.int .i64 q.order) := by rw [hkd.cell 10]; rfl
  have e11 : wd.cell? ⟨db, 11, none⟩ = some (.int .i64 q.limit) := by rw [hkd.cell 11]; rfl
  clear hkd hka hkKa hkb hkKb hkc hkKc
  go_upto_region 13 with fail
  clear e0 e1 e2 e3 e4 e5 e6 e7 e8 e9 e10 e11 hfzd
  obtain ⟨wd2, hwd2⟩ : ∃ w, w = ((((wd.setCell ⟨db, 5, none⟩ (.int .i64 0)).setCell ⟨db, 6, none⟩ (.string ⟨#[]⟩)).setCell ⟨db, 7, none⟩ (.string ⟨#[]⟩)).setCell ⟨db, 8, none⟩ (.slice none 0 0)) := ⟨_, rfl⟩
  have hsd : Blk ((((wd.setCell ⟨db, 5, none⟩ (.int .i64 0)).setCell ⟨db, 6, none⟩ (.string ⟨#[]⟩)).setCell ⟨db, 7, none⟩ (.string ⟨#[]⟩)).setCell ⟨db, 8, none⟩ (.slice none 0 0)) db 32 #[.slice q.tA q.tn q.tc, .int .i64 q.frm, .int .i64 q.upto, .int .i64 q.every, .slice q.bA q.bn q.bc, .int .i64 0, .string ⟨#[]⟩, .string ⟨#[]⟩, .slice none 0 0, .slice q.hA q.hn q.hc, .int .i64 q.order, .int .i64 q.limit] := (((HKd.out.set_ 5 _).set_ 6 _).set_ 7 _).set_ 8 _
  have hfrd : Fr (fun i => i = db) wd ((((wd.setCell ⟨db, 5, none⟩ (.int .i64 0)).setCell ⟨db, 6, none⟩ (.string ⟨#[]⟩)).setCell ⟨db, 7, none⟩ (.string ⟨#[]⟩)).setCell ⟨db, 8, none⟩ (.slice none 0 0)) := fr_four _ _ _ _ _ _
  have hbsd : Below ((((wd.setCell ⟨db, 5, none⟩ (.int .i64 0)).setCell ⟨db, 6, none⟩ (.string ⟨#[]⟩)).setCell ⟨db, 7, none⟩ (.string ⟨#[]⟩)).setCell ⟨db, 8, none⟩ (.slice none 0 0)).heap.size ((((wd.setCell ⟨db, 5, none⟩ (.int .i64 0)).setCell ⟨db, 6, none⟩ (.string ⟨#[]⟩)).setCell ⟨db, 7, none⟩ (.string ⟨#[]⟩)).setCell ⟨db, 8, none⟩ (.slice none 0 0)) wd2 := by rw [hwd2]; exact Below.refl _ _
  have hkxd := hsd.below hbsd
  have hftd : Fr (fun i => i = db) wd wd2 := hfrd.trans (Fr.of_below hbsd)
  have HFwd2 := Lib.hid (show Below w4.heap.size w4 wd2 from HFwd.out.trans (hftd.below HFwd.out.size (fun i hi => by rw [hi]; exact hged)))
  have HKa := Lib.hid (hftd.blk HKa.out HNad.out)
  have HKKa := Lib.hid (hftd.blk HKKa.out HNKad.out)
  have HKb := Lib.hid (hftd.blk HKb.out HNbd.out)
  have HKKb := Lib.hid (hftd.blk HKKb.out HNKbd.out)
  have HKc := Lib.hid (hftd.blk HKc.out HNcd.out)
  have HKKc := Lib.hid (hftd.blk HKKc.out HNKcd.out)
  have HWd2 := Lib.hid hwd2
  have HKd := Lib.hid hkxd
  have hlt_d : db < wd2.heap.size := hkxd.lt
  rw [← HWd2.out]
  clear hwd2 hsd hfrd hbsd hkxd hftd hltd hned hged
  clear c0 c1 c2 c3 c4 c5 c6 c7 c8 c9 c10 c11
  obtain ⟨c0, c1, c2, c3, c4, c5, c6, c7, c8, c9, c10, c11⟩ := q_cells (HQB.out.below (bthen HB4.out HFwd2.out))
  have HKS := Lib.hid (HSB.out.below (bthen HB4.out HFwd2.out))
  have hdep : q.f.depth ≤ 28 := by have := HDE.out; omega
  have hQ := HQ.out.keep (Nat.le_refl _) (bthen HB4.out HFwd2.out)
  have hL := HL.out.keep (Nat.le_refl _) (bthen HB4.out HFwd2.out)
  have hM := HM.out.keep (Nat.le_refl _) (bthen HB4.out HFwd2.out)
  have hck := HCKE.out.symm
  have hsh := shape_q (chkS_zero hck).1
  have hf2 := shp_deep (d := 2) hsh HO0.out (by omega) (by omega)
  have hf3 := shp_deep (d := 3) hsh HO0.out (by omega) (by omega)
  have hFa : FIn wd2 (fNot Ka q.f) := FIn.of ⟨kids_row (l := [q.f]) HKKa.out rfl, rfl, Nat.le_refl _, by show (1 : Nat) ≤ 9223372036854775807; omega, by show (0 : Nat) ≤ 140737488355328; omega, by show (0 : Nat) ≤ 140737488355328; omega⟩ (fun k hk => by
    have : k = q.f := List.mem_singleton.1 hk
    rw [this]; exact hQ.f)
  have hFb : FIn wd2 (fOr Kb q.f (fNot Ka q.f)) := FIn.of ⟨kids_row (l := [q.f, fNot Ka q.f]) HKKb.out rfl, rfl, Nat.le_refl _, by show (2 : Nat) ≤ 9223372036854775807; omega, by show (0 : Nat) ≤ 140737488355328; omega, by show (0 : Nat) ≤ 140737488355328; omega⟩ (fun k hk => by
    have hk : k ∈ [q.f, fNot Ka q.f] := hk
    rcases List.mem_cons.1 hk with rfl | hk
    · exact hQ.f
    · rw [List.mem_singleton.1 hk]; exact hFa)
  have hFc : FIn wd2 (fAnd Kc q.f) := FIn.of ⟨kids_row (l := [q.f]) HKKc.out rfl, rfl, Nat.le_refl _, by show (1 : Nat) ≤ 9223372036854775807; omega, by show (0 : Nat) ≤ 140737488355328; omega, by show (0 : Nat) ≤ 140737488355328; omega⟩ (fun k hk => by
    have : k = q.f := List.mem_singleton.1 hk
    rw [this]; exact hQ.f)
  have hFd : FIn wd2 fAll := FIn.of ⟨.inl rfl, rfl, Nat.le_refl _, by show (0 : Nat) ≤ 9223372036854775807; omega, by show (0 : Nat) ≤ 140737488355328; omega, by show (0 : Nat) ≤ 140737488355328; omega⟩ (fun k hk => by cases hk)
  have hbn : q.bn ≤ 1000 := by have := HFQ.out.fb.1; have := HQ.out.by_.len; omega
  have hnn : n ≤ 1000000 := by have := HFQ.out.fl.1; have := HL.out.len; omega
  have hlv : q.f.leaves.length ≤ 300 := by have h1 := leaves_le q.f; have := HFQ.out.tot; omega
  have hUe : usedL L (q.BY ++ q.f.dims) = U := HUU.out.symm
  have hUa : usedL L (q.BY ++ (fNot Ka q.f).dims) = U := by rw [← hUe, dims_leaves, fNot_leaves, ← dims_leaves]
  have hUb : usedL L (q.BY ++ (fOr Kb q.f (fNot Ka q.f)).dims) = U := by
    rw [← hUe]
    refine used_same fun x => ?_
    rw [dims_leaves, fOr_leaves, fNot_leaves, List.map_append, ← dims_leaves]
    simp
  have hUd : (usedL L (q.BY ++ fAll.dims)).length ≤ u := by
    rw [HU.out, ← hUe]
    refine used_less fun x hx => ?_
    rw [dims_leaves, fAll_leaves] at hx
    simp at hx ⊢
    exact .inl hx
  obtain ⟨V, hV⟩ : ∃ V, V = usedL L (q.BY ++ fAll.dims) := ⟨_, rfl⟩
  rw [← hV] at hUd
  have HX1 := Lib.hid (fun W (hW : Below wd2.heap.size wd2 W) => show Calls Try.prog 8 #[.agg #[.slice A n c, .slice B m d], .agg #[.slice q.tA q.tn q.tc, .int .i64 q.frm, .int .i64 q.upto, .int .i64 q.every, .slice q.bA q.bn q.bc, .int .i64 3, .string ⟨#[]⟩, .string ⟨#[]⟩, .slice (some ⟨Ka, 0, none⟩) 1 1, .slice q.hA q.hn q.hc, .int .i64 q.order, .int .i64 q.limit]] W (fun e w' => e = .returned (.int .i64 0) ∧ Below W.heap.size W w') from by
    have h := check_any A B n c m d L M { q with f := fNot Ka q.f } W (hL.keep (Nat.le_refl _) hW) (hM.keep (Nat.le_refl _) hW) ((q_with hQ hFa).keep (Nat.le_refl _) hW)
    rw [check_with hck (fNot_shp (by omega) hf2) (fun x hx => by rw [fNot_leaves] at hx; exact hx)] at h
    exact h)
  have HX2 := Lib.hid (fun W (hW : Below wd2.heap.size wd2 W) => show Calls Try.prog 8 #[.agg #[.slice A n c, .slice B m d], .agg #[.slice q.tA q.tn q.tc, .int .i64 q.frm, .int .i64 q.upto, .int .i64 q.every, .slice q.bA q.bn q.bc, .int .i64 5, .string ⟨#[]⟩, .string ⟨#[]⟩, .slice (some ⟨Kb, 0, none⟩) 2 2, .slice q.hA q.hn q.hc, .int .i64 q.order, .int .i64 q.limit]] W (fun e w' => e = .returned (.int .i64 0) ∧ Below W.heap.size W w') from by
    have h := check_any A B n c m d L M { q with f := fOr Kb q.f (fNot Ka q.f) } W (hL.keep (Nat.le_refl _) hW) (hM.keep (Nat.le_refl _) hW) ((q_with hQ hFb).keep (Nat.le_refl _) hW)
    rw [check_with hck (fOr_shp hf2 (fNot_shp (by omega) hf3)) (fun x hx => by rw [fOr_leaves, fNot_leaves] at hx; simpa using hx)] at h
    exact h)
  have HX3 := Lib.hid (fun W (hW : Below wd2.heap.size wd2 W) => show Calls Try.prog 8 #[.agg #[.slice A n c, .slice B m d], .agg #[.slice q.tA q.tn q.tc, .int .i64 q.frm, .int .i64 q.upto, .int .i64 q.every, .slice q.bA q.bn q.bc, .int .i64 4, .string ⟨#[]⟩, .string ⟨#[]⟩, .slice (some ⟨Kc, 0, none⟩) 1 1, .slice q.hA q.hn q.hc, .int .i64 q.order, .int .i64 q.limit]] W (fun e w' => e = .returned (.int .i64 221) ∧ Below W.heap.size W w') from by
    have h := check_any A B n c m d L M { q with f := fAnd Kc q.f } W (hL.keep (Nat.le_refl _) hW) (hM.keep (Nat.le_refl _) hW) ((q_with hQ hFc).keep (Nat.le_refl _) hW)
    rw [check_bad fAnd_shp] at h
    exact h)
  have HX4 := Lib.hid (fun W (hW : Below wd2.heap.size wd2 W) => show Calls Try.prog 8 #[.agg #[.slice A n c, .slice B m d], .agg #[.slice q.tA q.tn q.tc, .int .i64 q.frm, .int .i64 q.upto, .int .i64 q.every, .slice q.bA q.bn q.bc, .int .i64 0, .string ⟨#[]⟩, .string ⟨#[]⟩, .slice none 0 0, .slice q.hA q.hn q.hc, .int .i64 q.order, .int .i64 q.limit]] W (fun e w' => e = .returned (.int .i64 0) ∧ Below W.heap.size W w') from by
    have h := check_any A B n c m d L M { q with f := fAll } W (hL.keep (Nat.le_refl _) hW) (hM.keep (Nat.le_refl _) hW) ((q_with hQ hFd).keep (Nat.le_refl _) hW)
    rw [check_with hck fAll_shp (fun x hx => by rw [fAll_leaves] at hx; cases hx)] at h
    exact h)
  have HX5 := Lib.hid (fun W (hW : Below wd2.heap.size wd2 W) => show Calls Try.prog 11 #[.agg #[.slice A n c, .slice B m d], .agg #[.slice q.tA q.tn q.tc, .int .i64 q.frm, .int .i64 q.upto, .int .i64 q.every, .slice q.bA q.bn q.bc, .int .i64 3, .string ⟨#[]⟩, .string ⟨#[]⟩, .slice (some ⟨Ka, 0, none⟩) 1 1, .slice q.hA q.hn q.hc, .int .i64 q.order, .int .i64 q.limit]] W (TextsN W u U) from by
    have h := used_any A B n c m d L M { q with f := fNot Ka q.f } W (hL.keep (Nat.le_refl _) hW) ((q_with hQ hFa).keep (Nat.le_refl _) hW) hbn (by show (fNot Ka q.f).leaves.length ≤ _; rw [fNot_leaves]; omega) hnn
    rw [show usedL L (({ q with f := fNot Ka q.f } : QZ).BY ++ ({ q with f := fNot Ka q.f } : QZ).f.dims) = U from hUa] at h
    unfold TextsP at h
    rw [← HU.out] at h
    exact h)
  have HX7 := Lib.hid (fun W (hW : Below wd2.heap.size wd2 W) => show Calls Try.prog 11 #[.agg #[.slice A n c, .slice B m d], .agg #[.slice q.tA q.tn q.tc, .int .i64 q.frm, .int .i64 q.upto, .int .i64 q.every, .slice q.bA q.bn q.bc, .int .i64 5, .string ⟨#[]⟩, .string ⟨#[]⟩, .slice (some ⟨Kb, 0, none⟩) 2 2, .slice q.hA q.hn q.hc, .int .i64 q.order, .int .i64 q.limit]] W (TextsN W u U) from by
    have h := used_any A B n c m d L M { q with f := fOr Kb q.f (fNot Ka q.f) } W (hL.keep (Nat.le_refl _) hW) ((q_with hQ hFb).keep (Nat.le_refl _) hW) hbn (by show (fOr Kb q.f (fNot Ka q.f)).leaves.length ≤ _; rw [fOr_leaves, fNot_leaves, List.length_append]; omega) hnn
    rw [show usedL L (({ q with f := fOr Kb q.f (fNot Ka q.f) } : QZ).BY ++ ({ q with f := fOr Kb q.f (fNot Ka q.f) } : QZ).f.dims) = U from hUb] at h
    unfold TextsP at h
    rw [← HU.out] at h
    exact h)
  obtain ⟨vn, hvn⟩ : ∃ k, k = V.length := ⟨_, rfl⟩
  rw [← hvn] at hUd
  have HX9 := Lib.hid (fun W (hW : Below wd2.heap.size wd2 W) => show Calls Try.prog 11 #[.agg #[.slice A n c, .slice B m d], .agg #[.slice q.tA q.tn q.tc, .int .i64 q.frm, .int .i64 q.upto, .int .i64 q.every, .slice q.bA q.bn q.bc, .int .i64 0, .string ⟨#[]⟩, .string ⟨#[]⟩, .slice none 0 0, .slice q.hA q.hn q.hc, .int .i64 q.order, .int .i64 q.limit]] W (TextsN W vn V) from by
    have h := used_any A B n c m d L M { q with f := fAll } W (hL.keep (Nat.le_refl _) hW) ((q_with hQ hFd).keep (Nat.le_refl _) hW) hbn (by show fAll.leaves.length ≤ _; rw [fAll_leaves]; simp) hnn
    rw [show usedL L (({ q with f := fAll } : QZ).BY ++ ({ q with f := fAll } : QZ).f.dims) = V from hV.symm] at h
    unfold TextsP at h
    rw [← hvn] at h
    exact h)
  have HTX := Lib.hid (fun (A5 : Option Addr) (c5 : Nat) (W : World) (hW : Below wd2.heap.size wd2 W) (hA : Row W A5 (texts U)) => texts_any A5 A4 u c5 u c4' U U W hA (HR4.out.keep (Nat.le_refl _) (HFwd2.out.trans (hW.mono HFwd2.out.size))) HU.out HU.out (by have := HULL.out; omega) (by have := HULL.out; omega) true (by simp))
  have HCA := Lib.hid (fun W (hW : Below wd2.heap.size wd2 W) => show W.cell? ⟨ab, 0, none⟩ = some (.slice q.tA q.tn q.tc) ∧ W.cell? ⟨ab, 1, none⟩ = some (.int .i64 q.frm) ∧ W.cell? ⟨ab, 2, none⟩ = some (.int .i64 q.upto) ∧ W.cell? ⟨ab, 3, none⟩ = some (.int .i64 q.every) ∧ W.cell? ⟨ab, 4, none⟩ = some (.slice q.bA q.bn q.bc) ∧ W.cell? ⟨ab, 5, none⟩ = some (.int .i64 3) ∧ W.cell? ⟨ab, 6, none⟩ = some (.string ⟨#[]⟩) ∧ W.cell? ⟨ab, 7, none⟩ = some (.string ⟨#[]⟩) ∧ W.cell? ⟨ab, 8, none⟩ = some (.slice (some ⟨Ka, 0, none⟩) 1 1) ∧ W.cell? ⟨ab, 9, none⟩ = some (.slice q.hA q.hn q.hc) ∧ W.cell? ⟨ab, 10, none⟩ = some (.int .i64 q.order) ∧ W.cell? ⟨ab, 11, none⟩ = some (.int .i64 q.limit) from by have h := HKa.out.below hW; exact ⟨by rw [h.cell 0]; rfl, by rw [h.cell 1]; rfl, by rw [h.cell 2]; rfl, by rw [h.cell 3]; rfl, by rw [h.cell 4]; rfl, by rw [h.cell 5]; rfl, by rw [h.cell 6]; rfl, by rw [h.cell 7]; rfl, by rw [h.cell 8]; rfl, by rw [h.cell 9]; rfl, by rw [h.cell 10]; rfl, by rw [h.cell 11]; rfl⟩)
  have HCB := Lib.hid (fun W (hW : Below wd2.heap.size wd2 W) => show W.cell? ⟨bb, 0, none⟩ = some (.slice q.tA q.tn q.tc) ∧ W.cell? ⟨bb, 1, none⟩ = some (.int .i64 q.frm) ∧ W.cell? ⟨bb, 2, none⟩ = some (.int .i64 q.upto) ∧ W.cell? ⟨bb, 3, none⟩ = some (.int .i64 q.every) ∧ W.cell? ⟨bb, 4, none⟩ = some (.slice q.bA q.bn q.bc) ∧ W.cell? ⟨bb, 5, none⟩ = some (.int .i64 5) ∧ W.cell? ⟨bb, 6, none⟩ = some (.string ⟨#[]⟩) ∧ W.cell? ⟨bb, 7, none⟩ = some (.string ⟨#[]⟩) ∧ W.cell? ⟨bb, 8, none⟩ = some (.slice (some ⟨Kb, 0, none⟩) 2 2) ∧ W.cell? ⟨bb, 9, none⟩ = some (.slice q.hA q.hn q.hc) ∧ W.cell? ⟨bb, 10, none⟩ = some (.int .i64 q.order) ∧ W.cell? ⟨bb, 11, none⟩ = some (.int .i64 q.limit) from by have h := HKb.out.below hW; exact ⟨by rw [h.cell 0]; rfl, by rw [h.cell 1]; rfl, by rw [h.cell 2]; rfl, by rw [h.cell 3]; rfl, by rw [h.cell 4]; rfl, by rw [h.cell 5]; rfl, by rw [h.cell 6]; rfl, by rw [h.cell 7]; rfl, by rw [h.cell 8]; rfl, by rw [h.cell 9]; rfl, by rw [h.cell 10]; rfl, by rw [h.cell 11]; rfl⟩)
  have HCC := Lib.hid (fun W (hW : Below wd2.heap.size wd2 W) => show W.cell? ⟨cb, 0, none⟩ = some (.slice q.tA q.tn q.tc) ∧ W.cell? ⟨cb, 1, none⟩ = some (.int .i64 q.frm) ∧ W.cell? ⟨cb, 2, none⟩ = some (.int .i64 q.upto) ∧ W.cell? ⟨cb, 3, none⟩ = some (.int .i64 q.every) ∧ W.cell? ⟨cb, 4, none⟩ = some (.slice q.bA q.bn q.bc) ∧ W.cell? ⟨cb, 5, none⟩ = some (.int .i64 4) ∧ W.cell? ⟨cb, 6, none⟩ = some (.string ⟨#[]⟩) ∧ W.cell? ⟨cb, 7, none⟩ = some (.string ⟨#[]⟩) ∧ W.cell? ⟨cb, 8, none⟩ = some (.slice (some ⟨Kc, 0, none⟩) 1 1) ∧ W.cell? ⟨cb, 9, none⟩ = some (.slice q.hA q.hn q.hc) ∧ W.cell? ⟨cb, 10, none⟩ = some (.int .i64 q.order) ∧ W.cell? ⟨cb, 11, none⟩ = some (.int .i64 q.limit) from by have h := HKc.out.below hW; exact ⟨by rw [h.cell 0]; rfl, by rw [h.cell 1]; rfl, by rw [h.cell 2]; rfl, by rw [h.cell 3]; rfl, by rw [h.cell 4]; rfl, by rw [h.cell 5]; rfl, by rw [h.cell 6]; rfl, by rw [h.cell 7]; rfl, by rw [h.cell 8]; rfl, by rw [h.cell 9]; rfl, by rw [h.cell 10]; rfl, by rw [h.cell 11]; rfl⟩)
  have HCD := Lib.hid (fun W (hW : Below wd2.heap.size wd2 W) => show W.cell? ⟨db, 0, none⟩ = some (.slice q.tA q.tn q.tc) ∧ W.cell? ⟨db, 1, none⟩ = some (.int .i64 q.frm) ∧ W.cell? ⟨db, 2, none⟩ = some (.int .i64 q.upto) ∧ W.cell? ⟨db, 3, none⟩ = some (.int .i64 q.every) ∧ W.cell? ⟨db, 4, none⟩ = some (.slice q.bA q.bn q.bc) ∧ W.cell? ⟨db, 5, none⟩ = some (.int .i64 0) ∧ W.cell? ⟨db, 6, none⟩ = some (.string ⟨#[]⟩) ∧ W.cell? ⟨db, 7, none⟩ = some (.string ⟨#[]⟩) ∧ W.cell? ⟨db, 8, none⟩ = some (.slice none 0 0) ∧ W.cell? ⟨db, 9, none⟩ = some (.slice q.hA q.hn q.hc) ∧ W.cell? ⟨db, 10, none⟩ = some (.int .i64 q.order) ∧ W.cell? ⟨db, 11, none⟩ = some (.int .i64 q.limit) from by have h := HKd.out.below hW; exact ⟨by rw [h.cell 0]; rfl, by rw [h.cell 1]; rfl, by rw [h.cell 2]; rfl, by rw [h.cell 3]; rfl, by rw [h.cell 4]; rfl, by rw [h.cell 5]; rfl, by rw [h.cell 6]; rfl, by rw [h.cell 7]; rfl, by rw [h.cell 8]; rfl, by rw [h.cell 9]; rfl, by rw [h.cell 10]; rfl, by rw [h.cell 11]; rfl⟩)
  have HCS := Lib.hid (fun W (hW : Below wd2.heap.size wd2 W) => s_cells (HKS.out.below hW))
  have hvu : (vn : Int) ≤ (u : Int) := by omega
  have HB24 := Lib.hid (bthen HB4.out HFwd2.out)
  clear c0 c1 c2 c3 c4 c5 c6 c7 c8 c9 c10 c11 hdep hQ hL hM hck hsh hf2 hf3 hFa hFb hFc hFd hbn hnn hlv hUe hUa hUb hUd hV hvn hlt_a hlt_b hlt_c hlt_d hlt_Ka hlt_Kb hlt_Kc
  go_wp2_with (first
    | (go_at_call 11; refine (HX9.out _ H8.out).mono ?_; rintro e x9 ⟨v9, rfl, ho9, hb⟩; obtain ⟨A9, c9', rfl, -, -, -⟩ := own_slice ho9; have H9 := Lib.hid (bthen H8.out hb); clear hb ho9)
    | (go_at_call 10; refine (HTX.out A7 c7' _ H7.out HR7.out).mono ?_; rintro e x8 ⟨rfl, hb⟩; have H8 := Lib.hid (bthen H7.out hb); obtain ⟨z8_0, z8_1, z8_2, z8_3, z8_4, z8_5, z8_6, z8_7, z8_8, z8_9, z8_10, z8_11⟩ := HCD.out x8 H8.out; obtain ⟨t80, t81⟩ := HCS.out x8 H8.out; clear hb)
    | (go_at_call 11; refine (HX7.out _ H6.out).mono ?_; rintro e x7 ⟨v7, rfl, ho7, hb⟩; obtain ⟨A7, c7', rfl, hr7, -, -⟩ := own_slice ho7; have HR7 := Lib.hid hr7; have H7 := Lib.hid (bthen H6.out hb); clear hb ho7 hr7)
    | (go_at_call 10; refine (HTX.out A5 c5' _ H5.out HR5.out).mono ?_; rintro e x6 ⟨rfl, hb⟩; have H6 := Lib.hid (bthen H5.out hb); obtain ⟨z6_0, z6_1, z6_2, z6_3, z6_4, z6_5, z6_6, z6_7, z6_8, z6_9, z6_10, z6_11⟩ := HCB.out x6 H6.out; obtain ⟨t60, t61⟩ := HCS.out x6 H6.out; clear hb)
    | (go_at_call 11; refine (HX5.out _ H4.out).mono ?_; rintro e x5 ⟨v5, rfl, ho5, hb⟩; obtain ⟨A5, c5', rfl, hr5, -, -⟩ := own_slice ho5; have HR5 := Lib.hid hr5; have H5 := Lib.hid (bthen H4.out hb); clear hb ho5 hr5)
    | (go_at_call 8; refine (HX4.out _ H3.out).mono ?_; rintro e x4 ⟨rfl, hb⟩; have H4 := Lib.hid (bthen H3.out hb); obtain ⟨z4_0, z4_1, z4_2, z4_3, z4_4, z4_5, z4_6, z4_7, z4_8, z4_9, z4_10, z4_11⟩ := HCA.out x4 H4.out; obtain ⟨t40, t41⟩ := HCS.out x4 H4.out; clear hb)
    | (go_at_call 8; refine (HX3.out _ H2.out).mono ?_; rintro e x3 ⟨rfl, hb⟩; have H3 := Lib.hid (bthen H2.out hb); obtain ⟨z3_0, z3_1, z3_2, z3_3, z3_4, z3_5, z3_6, z3_7, z3_8, z3_9, z3_10, z3_11⟩ := HCD.out x3 H3.out; obtain ⟨t30, t31⟩ := HCS.out x3 H3.out; clear hb)
    | (go_at_call 8; refine (HX2.out _ H1.out).mono ?_; rintro e x2 ⟨rfl, hb⟩; have H2 := Lib.hid (bthen H1.out hb); obtain ⟨z2_0, z2_1, z2_2, z2_3, z2_4, z2_5, z2_6, z2_7, z2_8, z2_9, z2_10, z2_11⟩ := HCC.out x2 H2.out; obtain ⟨t20, t21⟩ := HCS.out x2 H2.out; clear hb)
    | (go_at_call 8; refine (HX1.out _ H0.out).mono ?_; rintro e x1 ⟨rfl, hb⟩; have H1 := Lib.hid (bthen H0.out hb); obtain ⟨z1_0, z1_1, z1_2, z1_3, z1_4, z1_5, z1_6, z1_7, z1_8, z1_9, z1_10, z1_11⟩ := HCB.out x1 H1.out; obtain ⟨t10, t11⟩ := HCS.out x1 H1.out; clear hb)
    | (go_at_call 7; refine (HAL.out _).mono ?_; rintro e x0 ⟨rfl, hb⟩; have H0 := Lib.hid hb; obtain ⟨z0_0, z0_1, z0_2, z0_3, z0_4, z0_5, z0_6, z0_7, z0_8, z0_9, z0_10, z0_11⟩ := HCA.out x0 H0.out; obtain ⟨t00, t01⟩ := HCS.out x0 H0.out; clear hb))
  go_ret
  exact ⟨rfl, bthen HB1.out (bthen HB24.out H9.out)⟩
end Go.Proofs.Ytjfkgiflakfjfaa
