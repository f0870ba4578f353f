/- The document's Check (9); the walk of TyperTells (3). -/
import Derived.Test.YtjfkgiflakfjfaaGC
namespace Go.Proofs.Ytjfkgiflakfjfaa
open Go.RowKit Go.Maps Go.Lib Go.Shelf
set_option linter.unusedSimpArgs false
set_option linter.unusedVariables false
theorem val_nil : valB ⟨#[]⟩ = true := (valB_iff _).2 ⟨by decide, fun i h => by
  have h1 : i < 0 := h
  omega⟩
theorem all_map_flat {f : FT → List FT} {p : FT → Bool} (l : List FT) : (l.map f).flatten.all p = (l.map fun x => (f x).all p).all id := by
  induction l with
  | nil => rfl
  | cons x l ih => rw [List.map_cons, List.flatten_cons, List.all_append, ih, List.map_cons, List.all_cons]; rfl
theorem vals_form {w : World} : ∀ (f : FT) (k : Nat), FIn w f → f.form k = true → f.vals = f.leaves.all lfV := by
  intro f
  induction f using FT.ind with
  | h f ih =>
    intro k hf h
    cases k with
    | zero => rw [f.form_zero] at h; cases h
    | succ k =>
      rw [f.form_eq, Bool.and_eq_true, List.all_eq_true] at h
      rw [f.vals_eq, f.leaves_eq, List.all_append, all_map_flat]
      have hk : f.ks.map FT.vals = f.ks.map fun x => x.leaves.all lfV := List.map_congr_left fun x hx => ih x hx k (hf.kid x hx) (h.1 _ (List.mem_map.2 ⟨x, hx, rfl⟩))
      rw [hk]
      congr 1
      have ho := h.2
      unfold opOk opB at ho
      by_cases h1 : f.op = 1
      · rw [show isLeaf f.op = true by rw [h1]; rfl, if_pos rfl]
        simp [lfV]
      · by_cases h2 : f.op = 2
        · rw [show isLeaf f.op = true by rw [h2]; rfl, if_pos rfl]
          simp [lfV]
        · have hl : isLeaf f.op = false := by simp [isLeaf, h1, h2]
          rw [hl, if_neg (by simp)]
          have hv : f.val = ⟨#[]⟩ := by
            by_cases h3 : f.op = 3
            · simp [h3] at ho; exact ho.2
            · by_cases h4 : f.op = 4 ∨ f.op = 5
              · rcases h4 with h4 | h4 <;> (simp [h4] at ho; exact ho.2)
              · simp [h1, h2, h3] at ho
                omega
          rw [hv, val_nil]; rfl
theorem vals_shape {w : World} {f : FT} (hf : FIn w f) (h : f.shp 1 = true) : f.vals = f.leaves.all lfV := by
  by_cases h0 : f.op = 0
  · rw [shp_all f h0 hf.top.len] at h
    simp only [Bool.and_eq_true, decide_eq_true_eq] at h
    have hk : f.ks = [] := List.eq_nil_of_length_eq_zero (by rw [← hf.top.len]; exact h.1.1)
    rw [f.vals_eq, f.leaves_eq, hk, h.2, val_nil, h0]; rfl
  · rw [shp_top f h0] at h
    exact vals_form f 30 hf h
theorem check_same {w : World} {L M : List ByteArray} {q : QZ} (hq : QIn w q) : chkS (shapeR q) (namedS L M q) (boundedS q.f.vals q) = checkS L M q := by
  have h1 : shapeR q = shapeS q := by unfold shapeR shapeS; rw [shp_flt q.f hq.f.top.len]
  unfold checkS
  rw [h1]
  cases hs : shapeS q with
  | false => rfl
  | true => rw [vals_shape hq.f (shape_q hs)]
set_option maxRecDepth 100000 in
set_option maxHeartbeats 32000000 in
theorem rcheck_any (A B : Option Addr) (n c m d : Nat) (L M : List ByteArray) (q : QZ) (w : World) (hL : StrsIn w A n c L) (hM : StrsIn w B m d M) (hq : QIn w q) (hb20 : q.bn ≤ 1000) (hl : q.f.dims.length ≤ 1000) :
    Calls Try.prog 9 #[.agg #[.slice A n c, .slice B m d], .agg #[.slice q.tA q.tn q.tc, .int .i64 q.frm, .int .i64 q.upto, .int .i64 q.every, .slice q.bA q.bn q.bc, .int .i64 q.f.op, .string q.f.dim, .string q.f.val, .slice q.f.A q.f.n q.f.c, .slice q.hA q.hn q.hc, .int .i64 q.order, .int .i64 q.limit]] w fun e w' => e = .returned (.int .i64 (checkS L M q)) ∧ Below w.heap.size w w' := by
  rw [← check_same (L := L) (M := M) hq]
  obtain ⟨w1, hw1⟩ : ∃ w1, w1 = (w.alloc (.cells #[.slice A n c, .slice B m d] 24)).alloc (.cells #[.slice q.tA q.tn q.tc, .int .i64 q.frm, .int .i64 q.upto, .int .i64 q.every, .slice q.bA q.bn q.bc, .int .i64 q.f.op, .string q.f.dim, .string q.f.val, .slice q.f.A q.f.n q.f.c, .slice q.hA q.hn q.hc, .int .i64 q.order, .int .i64 q.limit] 32) := ⟨_, rfl⟩
  have hb1 : Below w.heap.size w w1 := by rw [hw1]; exact bpush (bpush (Below.refl _ _) _) _
  have hSB : Blk w1 w.heap.size 24 #[.slice A n c, .slice B m d] := by
    rw [hw1]; exact (Blk.new w 24 #[.slice A n c, .slice B m d]).below (bpush (Below.refl _ _) _)
  have hQB : Blk w1 (w.heap.size + 1) 32 #[.slice q.tA q.tn q.tc, .int .i64 q.frm, .int .i64 q.upto, .int .i64 q.every, .slice q.bA q.bn q.bc, .int .i64 q.f.op, .string q.f.dim, .string q.f.val, .slice q.f.A q.f.n q.f.c, .slice q.hA q.hn q.hc, .int .i64 q.order, .int .i64 q.limit] := by
    have := Blk.new (w.alloc (.cells #[.slice A n c, .slice B m d] 24)) 32 #[.slice q.tA q.tn q.tc, .int .i64 q.frm, .int .i64 q.upto, .int .i64 q.every, .slice q.bA q.bn q.bc, .int .i64 q.f.op, .string q.f.dim, .string q.f.val, .slice q.f.A q.f.n q.f.c, .slice q.hA q.hn q.hc, .int .i64 q.order, .int .i64 q.limit]
    rw [hw1]; simpa using this
  obtain ⟨S, hSe⟩ : ∃ S, S = w.heap.size := ⟨_, rfl⟩
  obtain ⟨Q, hQe⟩ : ∃ Q, Q = w.heap.size + 1 := ⟨_, rfl⟩
  rw [← hSe] at hSB
  rw [← hQe] at hQB
  have HB1 := Lib.hid hb1
  have HSB := Lib.hid hSB
  have HQB := Lib.hid hQB
  have HW1 := Lib.hid hw1
  have HSE := Lib.hid hSe
  have HQE := Lib.hid hQe
  have HM := Lib.hid (hM.keep (Nat.le_refl _) hb1)
  have HL := Lib.hid (hL.keep (Nat.le_refl _) hb1)
  have HQ := Lib.hid (hq.keep (Nat.le_refl _) hb1)
  have HX1 := Lib.hid (fun W (hW : Below w1.heap.size w1 W) => rshape_any q W (HQ.out.keep (Nat.le_refl _) hW))
  have HX2 := Lib.hid (fun W (hW : Below w1.heap.size w1 W) => rnames_any A B n c m d L M q W (HL.out.keep (Nat.le_refl _) hW) (HM.out.keep (Nat.le_refl _) hW) (HQ.out.keep (Nat.le_refl _) hW) hb20 hl)
  have HX3 := Lib.hid (fun W (hW : Below w1.heap.size w1 W) => types_any q W (HQ.out.keep (Nat.le_refl _) hW))
  obtain ⟨r1, hr1⟩ : ∃ r, r = shapeR q := ⟨_, rfl⟩
  obtain ⟨r2, hr2⟩ : ∃ r, r = namedS L M q := ⟨_, rfl⟩
  obtain ⟨r3, hr3⟩ : ∃ r, r = boundedS q.f.vals q := ⟨_, rfl⟩
  rw [← hr1] at HX1 ⊢
  rw [← hr2] at HX2 ⊢
  rw [← hr3] at HX3 ⊢
  obtain ⟨oo, hoo⟩ : ∃ o, o = chkS r1 r2 r3 := ⟨_, rfl⟩
  rw [← hoo]
  have HOO := Lib.hid hoo
  obtain ⟨c0, c1, c2, c3, c4, c5, c6, c7, c8, c9, c10, c11⟩ := q_cells hQB
  clear hw1 hb1 hSB hQB hL hM hq hSe hQe hoo hr1 hr2 hr3 hb20 hl
  go_enter Try.func9, Try.ntmps9
  go_upto_region 1 with fail
  rw [← HW1.out, ← HQE.out, ← HSE.out]
  cases r1 with
  | false =>
    have HE := Lib.hid (show oo = 221 from HOO.out)
    go_wp2_with (go_at_call 22; refine (HX1.out _ (Below.refl _ _)).mono ?_; rintro e w2 ⟨rfl, hb⟩; have HB2 := Lib.hid hb; clear hb)
    go_ret
    exact ⟨by rw [HE.out]; rfl, bthen HB1.out HB2.out⟩
  | true =>
  go_upto_region 4 with (go_at_call 22; refine (HX1.out _ (Below.refl _ _)).mono ?_; rintro e w2 ⟨rfl, hb⟩; have HB2 := Lib.hid hb; clear hb)
  clear c0 c1 c2 c3 c4 c5 c6 c7 c8 c9 c10 c11
  obtain ⟨c0, c1, c2, c3, c4, c5, c6, c7, c8, c9, c10, c11⟩ := q_cells (HQB.out.below HB2.out)
  obtain ⟨s0, s1⟩ := s_cells (HSB.out.below HB2.out)
  cases r2 with
  | false =>
    have HE := Lib.hid (show oo = 231 from HOO.out)
    go_wp2_with (go_at_call 23; refine (HX2.out _ HB2.out).mono ?_; rintro e w3 ⟨rfl, hb⟩; have HB3 := Lib.hid (bthen HB2.out hb); clear hb)
    go_ret
    exact ⟨by rw [HE.out]; rfl, bthen HB1.out HB3.out⟩
  | true =>
  go_upto_region 7 with (go_at_call 23; refine (HX2.out _ HB2.out).mono ?_; rintro e w3 ⟨rfl, hb⟩; have HB3 := Lib.hid (bthen HB2.out hb); clear hb)
  clear c0 c1 c2 c3 c4 c5 c6 c7 c8 c9 c10 c11 s0 s1
  obtain ⟨c0, c1, c2, c3, c4, c5, c6, c7, c8, c9, c10, c11⟩ := q_cells (HQB.out.below HB3.out)
  cases r3 with
  | false =>
    have HE := Lib.hid (show oo = 232 from HOO.out)
    go_wp2_with (go_at_call 24; refine (HX3.out _ HB3.out).mono ?_; rintro e w4 ⟨rfl, hb⟩; have HB4 := Lib.hid (bthen HB3.out hb); clear hb)
    go_ret
    exact ⟨by rw [HE.out]; rfl, bthen HB1.out HB4.out⟩
  | true =>
    have HE := Lib.hid (show oo = 0 from HOO.out)
    go_wp2_with (go_at_call 24; refine (HX3.out _ HB3.out).mono ?_; rintro e w4 ⟨rfl, hb⟩; have HB4 := Lib.hid (bthen HB3.out hb); clear hb)
    go_ret
    exact ⟨by rw [HE.out]; rfl, bthen HB1.out HB4.out⟩
set_option maxRecDepth 100000 in
set_option maxHeartbeats 64000000 in
theorem tells_walk (A B : Option Addr) (n c m d : Nat) (L M : List ByteArray) (q : QZ) (t : Int) (w : World) (hL : StrsIn w A n c L) (hM : StrsIn w B m d M) (hq : QIn w q) :
    Calls Try.prog 3 #[.agg #[.slice A n c, .slice B m d], .agg #[.slice q.tA q.tn q.tc, .int .i64 q.frm, .int .i64 q.upto, .int .i64 q.every, .slice q.bA q.bn q.bc, .int .i64 q.f.op, .string q.f.dim, .string q.f.val, .slice q.f.A q.f.n q.f.c, .slice q.hA q.hn q.hc, .int .i64 q.order, .int .i64 q.limit], .int .i64 t] w fun e w' => e = .returned (.bool true) ∧ Below w.heap.size w w' := by
  obtain ⟨w1, hw1⟩ : ∃ w1, w1 = (w.alloc (.cells #[.slice A n c, .slice B m d] 24)).alloc (.cells #[.slice q.tA q.tn q.tc, .int .i64 q.frm, .int .i64 q.upto, .int .i64 q.every, .slice q.bA q.bn q.bc, .int .i64 q.f.op, .string q.f.dim, .string q.f.val, .slice q.f.A q.f.n q.f.c, .slice q.hA q.hn q.hc, .int .i64 q.order, .int .i64 q.limit] 32) := ⟨_, rfl⟩
  have hb1 : Below w.heap.size w w1 := by rw [hw1]; exact bpush (bpush (Below.refl _ _) _) _
  have hSB : Blk w1 w.heap.size 24 #[.slice A n c, .slice B m d] := by
    rw [hw1]; exact (Blk.new w 24 #[.slice A n c, .slice B m d]).below (bpush (Below.refl _ _) _)
  have hQB : Blk w1 (w.heap.size + 1) 32 #[.slice q.tA q.tn q.tc, .int .i64 q.frm, .int .i64 q.upto, .int .i64 q.every, .slice q.bA q.bn q.bc, .int .i64 q.f.op, .string q.f.dim, .string q.f.val, .slice q.f.A q.f.n q.f.c, .slice q.hA q.hn q.hc, .int .i64 q.order, .int .i64 q.limit] := by
    have := Blk.new (w.alloc (.cells #[.slice A n c, .slice B m d] 24)) 32 #[.slice q.tA q.tn q.tc, .int .i64 q.frm, .int .i64 q.upto, .int .i64 q.every, .slice q.bA q.bn q.bc, .int .i64 q.f.op, .string q.f.dim, .string q.f.val, .slice q.f.A q.f.n q.f.c, .slice q.hA q.hn q.hc, .int .i64 q.order, .int .i64 q.limit]
    rw [hw1]; simpa using this
  obtain ⟨S, hSe⟩ : ∃ S, S = w.heap.size := ⟨_, rfl⟩
  obtain ⟨Q, hQe⟩ : ∃ Q, Q = w.heap.size + 1 := ⟨_, rfl⟩
  rw [← hSe] at hSB
  rw [← hQe] at hQB
  have HB1 := Lib.hid hb1
  have HSB := Lib.hid hSB
  have HQB := Lib.hid hQB
  have HW1 := Lib.hid hw1
  have HSE := Lib.hid hSe
  have HQE := Lib.hid hQe
  have HM := Lib.hid (hM.keep (Nat.le_refl _) hb1)
  have HL := Lib.hid (hL.keep (Nat.le_refl _) hb1)
  have HQ := Lib.hid (hq.keep (Nat.le_refl _) hb1)
  have HFT := Lib.hid (fitsQ_any A B n c m d L M q w1 HL.out HM.out HQ.out.by_ HQ.out.f HQ.out.tmax HQ.out.hmax)
  have HAL := Lib.hid (fun W => alive_any W)
  have HCK := Lib.hid (fun W (hW : Below w1.heap.size w1 W) => check_any A B n c m d L M q W (HL.out.keep (Nat.le_refl _) hW) (HM.out.keep (Nat.le_refl _) hW) (HQ.out.keep (Nat.le_refl _) hW))
  have HRK := Lib.hid (fun (h1 : q.bn ≤ 1000) (h2 : q.f.dims.length ≤ 1000) W (hW : Below w1.heap.size w1 W) => rcheck_any A B n c m d L M q W (HL.out.keep (Nat.le_refl _) hW) (HM.out.keep (Nat.le_refl _) hW) (HQ.out.keep (Nat.le_refl _) hW) h1 h2)
  obtain ⟨ck, hck⟩ : ∃ x, x = checkS L M q := ⟨_, rfl⟩
  rw [← hck] at HCK HRK
  have HCKE := Lib.hid hck
  have HCE := Lib.hid (fun w' (hW : Below w1.heap.size w1 w') => show (w'.cell? ⟨S, 0, none⟩ = some (.slice A n c) ∧ w'.cell? ⟨S, 1, none⟩ = some (.slice B m d) ∧ w'.cell? ⟨Q, 0, none⟩ = some (.slice q.tA q.tn q.tc) ∧ w'.cell? ⟨Q, 1, none⟩ = some (.int .i64 q.frm) ∧ w'.cell? ⟨Q, 2, none⟩ = some (.int .i64 q.upto) ∧ w'.cell? ⟨Q, 3, none⟩ = some (.int .i64 q.every) ∧ w'.cell? ⟨Q, 4, none⟩ = some (.slice q.bA q.bn q.bc) ∧ w'.cell? ⟨Q, 5, none⟩ = some (.int .i64 q.f.op) ∧ w'.cell? ⟨Q, 6, none⟩ = some (.string q.f.dim) ∧ w'.cell? ⟨Q, 7, none⟩ = some (.string q.f.val) ∧ w'.cell? ⟨Q, 8, none⟩ = some (.slice q.f.A q.f.n q.f.c) ∧ w'.cell? ⟨Q, 9, none⟩ = some (.slice q.hA q.hn q.hc) ∧ w'.cell? ⟨Q, 10, none⟩ = some (.int .i64 q.order) ∧ w'.cell? ⟨Q, 11, none⟩ = some (.int .i64 q.limit)) from by
    obtain ⟨s0, s1⟩ := s_cells (HSB.out.below hW)
    exact ⟨s0, s1, q_cells (HQB.out.below hW)⟩)
  obtain ⟨s0, s1, c0, c1, c2, c3, c4, c5, c6, c7, c8, c9, c10, c11⟩ := HCE.out w1 (Below.refl _ _)
  clear hw1 hb1 hSB hQB hL hM hq hSe hQe hck
  go_enter Try.func3, Try.ntmps3
  go_upto_region 1 with fail
  rw [← HW1.out, ← HQE.out, ← HSE.out]
  go_upto_region 2 with (go_at_call 6; refine HFT.out.mono ?_; rintro e w2 ⟨⟨r, rfl, hr⟩, hb⟩; have HR := Lib.hid hr; have HB2 := Lib.hid hb; clear hr hb)
  clear c0 c1 c2 c3 c4 c5 c6 c7 c8 c9 c10 c11 s0 s1
  obtain ⟨s0, s1, c0, c1, c2, c3, c4, c5, c6, c7, c8, c9, c10, c11⟩ := HCE.out w2 HB2.out
  cases r with
  | false =>
    go_wp2_with (go_at_call 7; refine (HAL.out _).mono ?_; rintro e w3 ⟨rfl, hb⟩; have HB3 := Lib.hid (bthen HB2.out hb); clear hb)
    go_ret
    exact ⟨rfl, bthen HB1.out HB3.out⟩
  | true =>
  have HFQ := Lib.hid (HR.out rfl)
  have HBN := Lib.hid (show q.bn ≤ 1000 by have := HFQ.out.fb.1; have := HQ.out.by_.len; omega)
  have HLV := Lib.hid (show q.f.leaves.length ≤ 300 by have h1 := leaves_le q.f; have := HFQ.out.tot; omega)
  have HDL := Lib.hid (show q.f.dims.length ≤ 1000 by rw [dims_leaves, List.length_map]; have := HLV.out; omega)
  have HRX := Lib.hid (HRK.out HBN.out HDL.out)
  go_upto_region 5 with (go_at_call 8; refine (HCK.out _ HB2.out).mono ?_; rintro e w3 ⟨rfl, hb⟩; have HB3 := Lib.hid (bthen HB2.out hb); clear hb)
  clear c0 c1 c2 c3 c4 c5 c6 c7 c8 c9 c10 c11 s0 s1
  obtain ⟨s0, s1, c0, c1, c2, c3, c4, c5, c6, c7, c8, c9, c10, c11⟩ := HCE.out w3 HB3.out
  by_cases h0 : ck = 0
  case neg =>
    have h0b : (ck == 0) = false := by simp [h0]
    have h0c : (ck != 0) = true := by simp [h0]
    go_wp2_with (first
      | (go_at_call 9; refine (HRX.out _ HB5.out).mono ?_; rintro e w6 ⟨rfl, hb⟩; have HB6 := Lib.hid (bthen HB5.out hb); clear hb)
      | (go_at_call 7; refine (HAL.out _).mono ?_; rintro e w5 ⟨rfl, hb⟩; have HB5 := Lib.hid (bthen HB4.out hb); obtain ⟨y0, y1, d0, d1, d2, d3, d4, d5, d6, d7, d8, d9, d10, d11⟩ := HCE.out w5 HB5.out; clear hb)
      | (go_at_call 9; refine (HRX.out _ HB3.out).mono ?_; rintro e w4 ⟨rfl, hb⟩; have HB4 := Lib.hid (bthen HB3.out hb); clear hb))
    go_ret
    exact ⟨rfl, bthen HB1.out HB6.out⟩
  subst h0
  by_cases t0 : t < 0
  · go_wp2_with (first
      | (go_at_call 9; refine (HRX.out _ HB5.out).mono ?_; rintro e w6 ⟨rfl, hb⟩; have HB6 := Lib.hid (bthen HB5.out hb); clear hb)
      | (go_at_call 7; refine (HAL.out _).mono ?_; rintro e w5 ⟨rfl, hb⟩; have HB5 := Lib.hid (bthen HB4.out hb); obtain ⟨y0, y1, d0, d1, d2, d3, d4, d5, d6, d7, d8, d9, d10, d11⟩ := HCE.out w5 HB5.out; clear hb)
      | (go_at_call 9; refine (HRX.out _ HB3.out).mono ?_; rintro e w4 ⟨rfl, hb⟩; have HB4 := Lib.hid (bthen HB3.out hb); clear hb))
    go_ret
    exact ⟨rfl, bthen HB1.out HB6.out⟩
  by_cases t1 : 1099511627776 < t
  · go_wp2_with (first
      | (go_at_call 9; refine (HRX.out _ HB5.out).mono ?_; rintro e w6 ⟨rfl, hb⟩; have HB6 := Lib.hid (bthen HB5.out hb); clear hb)
      | (go_at_call 7; refine (HAL.out _).mono ?_; rintro e w5 ⟨rfl, hb⟩; have HB5 := Lib.hid (bthen HB4.out hb); obtain ⟨y0, y1, d0, d1, d2, d3, d4, d5, d6, d7, d8, d9, d10, d11⟩ := HCE.out w5 HB5.out; clear hb)
      | (go_at_call 9; refine (HRX.out _ HB3.out).mono ?_; rintro e w4 ⟨rfl, hb⟩; have HB4 := Lib.hid (bthen HB3.out hb); clear hb))
    go_ret
    exact ⟨rfl, bthen HB1.out HB6.out⟩
  have hgr : q.every = 0 ∨ okGran q.every := by
    have h1 := (chkS_zero HCKE.out.symm).2.2
    unfold boundedS numsS granB at h1
    simp only [Bool.and_eq_true, Bool.or_eq_true, decide_eq_true_eq] at h1
    exact h1.2.1.1.1.1.2
  have htt : 0 ≤ t ∧ t ≤ 1099511627776 := by omega
  have HUS := Lib.hid (fun W (hW : Below w1.heap.size w1 W) => used_any A B n c m d L M q W (HL.out.keep (Nat.le_refl _) hW) (HQ.out.keep (Nat.le_refl _) hW) HBN.out (by have := HLV.out; omega) (by have := HFQ.out.fl.1; have := HL.out.len; omega))
  have HRU := Lib.hid (fun W (hW : Below w1.heap.size w1 W) => rused_any A B n c m d L M q W (HL.out.keep (Nat.le_refl _) hW) (HQ.out.keep (Nat.le_refl _) hW) HBN.out HDL.out (by have := HFQ.out.fl.1; have := HL.out.len; omega))
  obtain ⟨U, hU⟩ : ∃ U, U = usedL L (q.BY ++ q.f.dims) := ⟨_, rfl⟩
  have HUL := Lib.hid (show U.length ≤ 20 by rw [hU]; exact Nat.le_trans (List.length_filter_le _ _) HFQ.out.fl.1)
  rw [← hU] at HUS HRU
  have HBK := Lib.hid (fun W => bkt_any q t W hgr htt)
  have HRB := Lib.hid (fun W => rbkt_any q t W hgr htt)
  have HTX := Lib.hid (fun (A5 A6 : Option Addr) (c5 c6 : Nat) (W : World) (hA : Row W A5 (texts U)) (hB : Row W A6 (texts U)) => texts_any A5 A6 U.length c5 U.length c6 U U W hA hB rfl rfl (by have := HUL.out; omega) (by have := HUL.out; omega) true (by simp))
  clear hgr htt hU
  go_upto_region 7 with (go_at_call 9; refine (HRX.out _ HB3.out).mono ?_; rintro e w4 ⟨rfl, hb⟩; have HB4 := Lib.hid (bthen HB3.out hb); clear hb)
  clear c0 c1 c2 c3 c4 c5 c6 c7 c8 c9 c10 c11 s0 s1
  obtain ⟨s0, s1, c0, c1, c2, c3, c4, c5, c6, c7, c8, c9, c10, c11⟩ := HCE.out w4 HB4.out
  have HB4d := Lib.hid (below_drewN HB4.out 1)
  go_region_held3 (fun w' => (w'.cell? ⟨S, 0, none⟩ = some (.slice A n c) ∧ w'.cell? ⟨S, 1, none⟩ = some (.slice B m d) ∧ w'.cell? ⟨Q, 0, none⟩ = some (.slice q.tA q.tn q.tc) ∧ w'.cell? ⟨Q, 1, none⟩ = some (.int .i64 q.frm) ∧ w'.cell? ⟨Q, 2, none⟩ = some (.int .i64 q.upto) ∧ w'.cell? ⟨Q, 3, none⟩ = some (.int .i64 q.every) ∧ w'.cell? ⟨Q, 4, none⟩ = some (.slice q.bA q.bn q.bc) ∧ w'.cell? ⟨Q, 5, none⟩ = some (.int .i64 q.f.op) ∧ w'.cell? ⟨Q, 6, none⟩ = some (.string q.f.dim) ∧ w'.cell? ⟨Q, 7, none⟩ = some (.string q.f.val) ∧ w'.cell? ⟨Q, 8, none⟩ = some (.slice q.f.A q.f.n q.f.c) ∧ w'.cell? ⟨Q, 9, none⟩ = some (.slice q.hA q.hn q.hc) ∧ w'.cell? ⟨Q, 10, none⟩ = some (.int .i64 q.order) ∧ w'.cell? ⟨Q, 11, none⟩ = some (.int .i64 q.limit)) ∧ Below w1.heap.size w1 w')
    (first
      | exact ⟨HCE.out _ HB4d.out, HB4d.out⟩
      | exact ⟨HCE.out _ hz6, hz6⟩
      | exact ⟨HCE.out _ hz5, hz5⟩
      | exact ⟨HCE.out _ hz4, hz4⟩
      | exact ⟨HCE.out _ hz3, hz3⟩
      | exact ⟨HCE.out _ hz2, hz2⟩
      | exact ⟨HCE.out _ hz1, hz1⟩)
    (first
      | (go_at_call 14
         refine (HRB.out _).mono ?_
         rintro e x6 ⟨rfl, hb⟩
         have hz6 : Below w1.heap.size w1 x6 := bthen hz5 hb)
      | (go_at_call 13
         refine (HBK.out _).mono ?_
         rintro e x5 ⟨rfl, hb⟩
         have hz5 : Below w1.heap.size w1 x5 := bthen hz4 hb)
      | (go_at_call 10
         refine (HTX.out _ _ _ _ _ (hr2.keep (Nat.le_refl _) hb3) hr3).mono ?_
         rintro e x4 ⟨rfl, hb⟩
         have hz4 : Below w1.heap.size w1 x4 := bthen hz3 hb)
      | (go_at_call 12
         refine (HRU.out _ hz2).mono ?_
         rintro e x3 ⟨v3, rfl, ho3, hb3⟩
         obtain ⟨A3, c3', rfl, hr3, -, -⟩ := own_slice ho3
         have hz3 : Below w1.heap.size w1 x3 := bthen hz2 hb3)
      | (go_at_call 11
         refine (HUS.out _ hz1).mono ?_
         rintro e x2 ⟨v2, rfl, ho2, hb⟩
         obtain ⟨A2, c2', rfl, hr2, -, -⟩ := own_slice ho2
         have hz2 : Below w1.heap.size w1 x2 := bthen hz1 hb)
      | (go_at_call 7
         refine (HAL.out _).mono ?_
         rintro e x1 ⟨rfl, hb⟩
         have hz1 : Below w1.heap.size w1 x1 := bthen HB4d.out hb))
  have HZ6 := Lib.hid hz6
  go_wp2_with fail
  go_ret
  exact ⟨rfl, bthen HB1.out HZ6.out⟩
end Go.Proofs.Ytjfkgiflakfjfaa
