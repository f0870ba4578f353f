/- The document's Check (9); the walk of TyperTells (3). -/
import Derived.Test.YtgaallkdfcckpaaGC
namespace Go.Proofs.Ytgaallkdfcckpaa
open Go.RowKit Go.Maps Go.Lib Go.Shelf
set_option linter.unusedSimpArgs false
set_option linter.unusedVariables false
theorem val_nil : valB ⟨#[]⟩ = true := (valB_iff _).2 ⟨by decide, fun i h => by
  have h1 : i < 0 := h
  omega⟩
theorem all_map_flat {f : FT → List FT} {p : FT → Bool} (l : List FT) : (l.map f).flatten.all p = (l.map fun x => (f x).all p).all id := by
  induction l with
  | nil => rfl
  | cons x l ih => rw [List.map_cons, List.flatten_cons, List.all_append, ih, List.map_cons, List.all_cons]; rfl
theorem vals_form {w : World} : ∀ (f : FT) (k : Nat), FIn w f → f.form k = true → f.vals = f.leaves.all lfV := by
  intro f
  induction f using FT.ind with
  | h f ih =>
    intro k hf h
    cases k with
    | zero => rw [f.form_zero] at h; cases h
    | succ k =>
      rw [f.form_eq, Bool.and_eq_true, List.all_eq_true] at h
      rw [f.vals_eq, f.leaves_eq, List.all_append, all_map_flat]
      have hk : f.ks.map FT.vals = f.ks.map fun x => x.leaves.all lfV := List.map_congr_left fun x hx => ih x hx k (hf.kid x hx) (h.1 _ (List.mem_map.2 ⟨x, hx, rfl⟩))
      rw [hk]
      congr 1
      have ho := h.2
      unfold opOk opB at ho
      by_cases h1 : f.op = 1
      · rw [show isLeaf f.op = true by rw [h1]; rfl, if_pos rfl]
        simp [lfV]
      · by_cases h2 : f.op = 2
        · rw [show isLeaf f.op = true by rw [h2]; rfl, if_pos rfl]
          simp [lfV]
        · have hl : isLeaf f.op = false := by simp [isLeaf, h1, h2]
          rw [hl, if_neg (by simp)]
          have hv : f.val = ⟨#[]⟩ := by
            by_cases h3 : f.op = 3
            · simp [h3] at ho; exact ho.2
            · by_cases h4 : f.op = 4 ∨ f.op = 5
              · rcases h4 with h4 | h4 <;> (simp [h4] at ho; exact ho.2)
              · simp [h1, h2, h3] at ho
                omega
          rw [hv, val_nil]; rfl
theorem vals_shape {w : World} {f : FT} (hf : FIn w f) (h : f.shp 1 = true) : f.vals = f.leaves.all lfV := by
  by_cases h0 : f.op = 0
  · rw [shp_all f h0 hf.top.len] at h
    simp only [Bool.and_eq_true, decide_eq_true_eq] at h
    have hk : f.ks = [] := List.eq_nil_of_length_eq_zero (by rw [← hf.top.len]; exact h.1.1)
    rw [f.vals_eq, f.leaves_eq, hk, h.2, val_nil, h0]; rfl
  · rw [shp_top f h0] at h
    exact vals_form f 30 hf h
theorem check_same {w : World} {L M : List ByteArray} {q : QZ} (hq : QIn w q) : chkS (shapeR q) (namedS L M q) (boundedS q.f.vals q) = checkS L M q := by
  have h1 : shapeR q = shapeS q := by unfold shapeR shapeS; rw [shp_flt q.f hq.f.top.len]
  unfold checkS
  rw [h1]
  cases hs : shapeS q with
  | false => rfl
  | true => rw [vals_shape hq.f (shape_q hs)]
set_option maxRecDepth 100000 in
set_option maxHeartbeats 32000000 in
theorem rcheck_any (A B : Option Addr) (n c m d : Nat) (L M : List ByteArray) (q : QZ) (w : World) (hL : StrsIn w A n c L) (hM : StrsIn w B m d M) (hq : QIn w q) (hb20 : q.bn ≤ 1000) (hl : q.f.dims.length ≤ 1000) :
    Calls Try.prog 19 #[.agg #[.slice A n c, .slice B m d], .agg #[.slice q.tA q.tn q.tc, .int .i64 q.frm, .int .i64 q.upto, .int .i64 q.every, .slice q.bA q.bn q.bc, .int .i64 q.f.op, .string q.f.dim, .string q.f.val, .slice q.f.A q.f.n q.f.c, .slice q.hA q.hn q.hc, .int .i64 q.order, .int .i64 q.limit]] w fun e w' => e = .returned (.int .i64 (checkS L M q)) ∧ Below w.heap.size w w' := by
  rw [← check_same (L := L) (M := M) hq]
  obtain ⟨w1, hw1⟩ : ∃ w1, w1 = (w.alloc (.cells #[.slice A n c, .slice B m d] 24)).alloc (.cells #[.slice q.tA q.tn q.tc, .int .i64 q.frm, .int .i64 q.upto, .int .i64 q.every, .slice q.bA q.bn q.bc, .int .i64 q.f.op, .string q.f.dim, .string q.f.val, .slice q.f.A q.f.n q.f.c, .slice q.hA q.hn q.hc, .int .i64 q.order, .int .i64 q.limit] 42) := ⟨_, rfl⟩
  have hb1 : Below w.heap.size w w1 := by rw [hw1]; exact bpush (bpush (Below.refl _ _) _) _
  have hSB : Blk w1 w.heap.size 24 #[.slice A n c, .slice B m d] := by
    rw [hw1]; exact (Blk.new w 24 #[.slice A n c, .slice B m d]).below (bpush (Below.refl _ _) _)
  have hQB : Blk w1 (w.heap.size + 1) 42 #[.slice q.tA q.tn q.tc, .int .i64 q.frm, .int .i64 q.upto, .int .i64 q.every, .slice q.bA q.bn q.bc, .int .i64 q.f.op, .string q.f.dim, .string q.f.val, .slice q.f.A q.f.n q.f.c, .slice q.hA q.hn q.hc, .int .i64 q.order, .int .i64 q.limit] := by
    have := Blk.new (w.alloc (.cells #[.slice A n c, .slice B m d] 24)) 42 #[.slice q.tA q.tn q.tc, .int .i64 q.frm, .int .i64 q.upto, .int .i64 q.every, .slice q.bA q.bn q.bc, .int .i64 q.f.op, .string q.f.dim, .string q.f.val, .slice q.f.A q.f.n q.f.c, .slice q.hA q.hn q.hc, .int .i64 q.order, .int .i64 q.limit]
    rw [hw1]; simpa using this
  obtain ⟨S, hSe⟩ : ∃ S, S = w.heap.size := ⟨_, rfl⟩
  obtain ⟨Q, hQe⟩ : ∃ Q, Q = w.heap.size + 1 := ⟨_, rfl⟩
  rw [← hSe] at hSB
  rw [← hQe] at hQB
  have HB1 := Lib.hid hb1
  have HSB := Lib.hid hSB
  have HQB := Lib.hid hQB
  have HW1 := Lib.hid hw1
  have HSE := Lib.hid hSe
  have HQE := Lib.hid hQe
  have HM := Lib.hid (hM.keep (Nat.le_refl _) hb1)
  have HL := Lib.hid (hL.keep (Nat.le_refl _) hb1)
  have HQ := Lib.hid (hq.keep (Nat.le_refl _) hb1)
  have HX1 := Lib.hid (fun W (hW : Below w1.heap.size w1 W) => rshape_any q W (HQ.out.keep (Nat.le_refl _) hW))
  have HX2 := Lib.hid (fun W (hW : Below w1.heap.size w1 W) => rnames_any A B n c m d L M q W (HL.out.keep (Nat.le_refl _) hW) (HM.out.keep (Nat.le_refl _) hW) (HQ.out.keep (Nat.le_refl _) hW) hb20 hl)
  have HX3 := Lib.hid (fun W (hW : Below w1.heap.size w1 W) => types_any q W (HQ.out.keep (Nat.le_refl _) hW))
  obtain ⟨r1, hr1⟩ : ∃ r, r = shapeR q := ⟨_, rfl⟩
  obtain ⟨r2, hr2⟩ : ∃ r, r = namedS L M q := ⟨_, rfl⟩
  obtain ⟨r3, hr3⟩ : ∃ r, r = boundedS q.f.vals q := ⟨_, rfl⟩
  rw [← hr1] at HX1 ⊢
  rw [← hr2] at HX2 ⊢
  rw [← hr3] at HX3 ⊢
  obtain ⟨oo, hoo⟩ : ∃ o, o = chkS r1 r2 r3 := ⟨_, rfl⟩
  rw [← hoo]
  have HOO := Lib.hid hoo
  obtain ⟨c0, c1, c2, c3, c4, c5, c6, c7, c8, c9, c10, c11⟩ := q_cells hQB
  clear hw1 hb1 hSB hQB hL hM hq hSe hQe hoo hr1 hr2 hr3 hb20 hl
  go_enter Try.func19, Try.ntmps19
  go_upto_region 1 with fail
  rw [← HW1.out, ← HQE.out, ← HSE.out]
  cases r1 with
  | false =>
    have HE := Lib.hid (show oo = 221 from HOO.out)
    go_wp2_with (go_at_call 48; refine (HX1.out _ (Below.refl _ _)).mono ?_; rintro e w2 ⟨rfl, hb⟩; have HB2 := Lib.hid hb; clear hb)
    go_ret
    exact ⟨by rw [HE.out]; rfl, bthen HB1.out HB2.out⟩
  | true =>
  go_upto_region 4 with (go_at_call 48; refine (HX1.out _ (Below.refl _ _)).mono ?_; rintro e w2 ⟨rfl, hb⟩; have HB2 := Lib.hid hb; clear hb)
  clear c0 c1 c2 c3 c4 c5 c6 c7 c8 c9 c10 c11
  obtain ⟨c0, c1, c2, c3, c4, c5, c6, c7, c8, c9, c10, c11⟩ := q_cells (HQB.out.below HB2.out)
  obtain ⟨s0, s1⟩ := s_cells (HSB.out.below HB2.out)
  cases r2 with
  | false =>
    have HE := Lib.hid (show oo = 231 from HOO.out)
    go_wp2_with (go_at_call 49; refine (HX2.out _ HB2.out).mono ?_; rintro e w3 ⟨rfl, hb⟩; have HB3 := Lib.hid (bthen HB2.out hb); clear hb)
    go_ret
    exact ⟨by rw [HE.out]; rfl, bthen HB1.out HB3.out⟩
  | true =>
  go_upto_region 7 with (go_at_call 49; refine (HX2.out _ HB2.out).mono ?_; rintro e w3 ⟨rfl, hb⟩; have HB3 := Lib.hid (bthen HB2.out hb); clear hb)
  clear c0 c1 c2 c3 c4 c5 c6 c7 c8 c9 c10 c11 s0 s1
  obtain ⟨c0, c1, c2, c3, c4, c5, c6, c7, c8, c9, c10, c11⟩ := q_cells (HQB.out.below HB3.out)
  cases r3 with
  | false =>
    have HE := Lib.hid (show oo = 232 from HOO.out)
    go_wp2_with (go_at_call 50; refine (HX3.out _ HB3.out).mono ?_; rintro e w4 ⟨rfl, hb⟩; have HB4 := Lib.hid (bthen HB3.out hb); clear hb)
    go_ret
    exact ⟨by rw [HE.out]; rfl, bthen HB1.out HB4.out⟩
  | true =>
    have HE := Lib.hid (show oo = 0 from HOO.out)
    go_wp2_with (go_at_call 50; refine (HX3.out _ HB3.out).mono ?_; rintro e w4 ⟨rfl, hb⟩; have HB4 := Lib.hid (bthen HB3.out hb); clear hb)
    go_ret
    exact ⟨by rw [HE.out]; rfl, bthen HB1.out HB4.out⟩
end Go.Proofs.Ytgaallkdfcckpaa
