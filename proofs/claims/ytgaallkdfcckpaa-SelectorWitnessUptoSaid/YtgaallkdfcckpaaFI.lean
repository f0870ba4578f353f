/- Whether a schema and a query are such as are gone through (6). -/
import Derived.Test.YtgaallkdfcckpaaFH
namespace Go.Proofs.Ytgaallkdfcckpaa
open Go.RowKit Go.Maps Go.Lib
set_option linter.unusedSimpArgs false
set_option linter.unusedVariables false
theorem le_sumL {l : List Nat} {x : Nat} (h : x ∈ l) : x ≤ l.sum := by
  induction l with
  | nil => cases h
  | cons y l ih =>
    rw [List.sum_cons]
    rcases List.mem_cons.1 h with rfl | h
    · omega
    · have := ih h; omega
theorem maxL_le_sum {l m : List Nat} (h : ∀ x ∈ l, x ≤ m.sum) : maxL l ≤ m.sum := by
  induction l with
  | nil => simp [maxL]
  | cons x l ih =>
    show l.foldl max (max 0 x) ≤ _
    rw [foldl_max]
    have h1 := ih fun y hy => h y (List.mem_cons_of_mem _ hy)
    have h2 := h x (List.mem_cons_self ..)
    omega
theorem depth_le_tot : ∀ f : FT, f.depth ≤ f.tot := by
  intro f
  induction f using FT.ind with
  | h f ih =>
    rw [f.depth_eq, f.tot_eq]
    have h := maxL_le_sum (l := f.ks.map FT.depth) (m := f.ks.map FT.tot) fun x hx => by
      obtain ⟨k, hk, rfl⟩ := List.mem_map.1 hx
      exact Nat.le_trans (ih k hk) (le_sumL (List.mem_map.2 ⟨k, hk, rfl⟩))
    unfold FT.own
    omega
structure StrsIn (w : World) (A : Option Addr) (n c : Nat) (L : List ByteArray) : Prop where
  row : Row w A (texts L)
  len : n = L.length
  cap : n ≤ c
  nil : A = none → c = 0
  max : n ≤ 9223372036854775807
structure FitQ (L M : List ByteArray) (q : QZ) : Prop where
  fl : fitsP L
  fm : fitsP M
  fb : fitsP q.BY
  tn : q.tn ≤ 30
  hn : q.hn ≤ 30
  tot : q.f.tot < 300
  right : rightP L M
  deep : q.f.depth ≤ 60
def FitsPost (L M : List ByteArray) (q : QZ) (w : World) (e : Ending) (w' : World) : Prop := (∃ r, e = .returned (.bool r) ∧ (r = true → FitQ L M q)) ∧ Below w.heap.size w w'
set_option maxRecDepth 100000 in
set_option maxHeartbeats 32000000 in
theorem fitsQ_any (A B : Option Addr) (n c m d : Nat) (L M : List ByteArray) (q : QZ) (w : World) (hL : StrsIn w A n c L) (hM : StrsIn w B m d M) (hB : StrsIn w q.bA q.bn q.bc q.BY) (hf : FIn w q.f) (ht : q.tn ≤ 9223372036854775807) (hh : q.hn ≤ 9223372036854775807) :
    Calls Try.prog 18 #[.agg #[.slice A n c, .slice B m d], .agg #[.slice q.tA q.tn q.tc, .int .i64 q.frm, .int .i64 q.upto, .int .i64 q.every, .slice q.bA q.bn q.bc, .int .i64 q.f.op, .string q.f.dim, .string q.f.val, .slice q.f.A q.f.n q.f.c, .slice q.hA q.hn q.hc, .int .i64 q.order, .int .i64 q.limit]] w (FitsPost L M q w) := by
  obtain ⟨w1, hw1⟩ : ∃ w1, w1 = (w.alloc (.cells #[.slice A n c, .slice B m d] 24)).alloc (.cells #[.slice q.tA q.tn q.tc, .int .i64 q.frm, .int .i64 q.upto, .int .i64 q.every, .slice q.bA q.bn q.bc, .int .i64 q.f.op, .string q.f.dim, .string q.f.val, .slice q.f.A q.f.n q.f.c, .slice q.hA q.hn q.hc, .int .i64 q.order, .int .i64 q.limit] 42) := ⟨_, rfl⟩
  have hb : Below w.heap.size w w1 := by rw [hw1]; exact bpush (bpush (Below.refl _ _) _) _
  have HB := Lib.hid hb
  obtain ⟨bA, hbA⟩ : ∃ x, x = q.bA := ⟨_, rfl⟩
  obtain ⟨bn, hbn⟩ : ∃ x, x = q.bn := ⟨_, rfl⟩
  obtain ⟨bc, hbc⟩ : ∃ x, x = q.bc := ⟨_, rfl⟩
  obtain ⟨tn, htn⟩ : ∃ x, x = q.tn := ⟨_, rfl⟩
  obtain ⟨hn, hhn⟩ : ∃ x, x = q.hn := ⟨_, rfl⟩
  have HC := Lib.hid (fun W (hW : Below w1.heap.size w1 W) => show W.cell? ⟨w.heap.size, 0, none⟩ = some (.slice A n c) ∧ W.cell? ⟨w.heap.size, 1, none⟩ = some (.slice B m d) ∧ W.cell? ⟨w.heap.size + 1, 0, none⟩ = some (.slice q.tA tn q.tc) ∧ W.cell? ⟨w.heap.size + 1, 4, none⟩ = some (.slice bA bn bc) ∧ W.cell? ⟨w.heap.size + 1, 5, none⟩ = some (.int .i64 q.f.op) ∧ W.cell? ⟨w.heap.size + 1, 6, none⟩ = some (.string q.f.dim) ∧ W.cell? ⟨w.heap.size + 1, 7, none⟩ = some (.string q.f.val) ∧ W.cell? ⟨w.heap.size + 1, 8, none⟩ = some (.slice q.f.A q.f.n q.f.c) ∧ W.cell? ⟨w.heap.size + 1, 9, none⟩ = some (.slice q.hA hn q.hc) from by
    have k0 : w1.cell? ⟨w.heap.size, 0, none⟩ = some (.slice A n c) := by
      rw [hw1]; exact cell_on (W := w.alloc (.cells #[.slice A n c, .slice B m d] 24)) (bpush (Below.refl _ _) _) (cell_made rfl rfl)
    have k1 : w1.cell? ⟨w.heap.size, 1, none⟩ = some (.slice B m d) := by
      rw [hw1]; exact cell_on (W := w.alloc (.cells #[.slice A n c, .slice B m d] 24)) (bpush (Below.refl _ _) _) (cell_made rfl rfl)
    have kk : Blk w1 (w.heap.size + 1) 42 #[.slice q.tA q.tn q.tc, .int .i64 q.frm, .int .i64 q.upto, .int .i64 q.every, .slice q.bA q.bn q.bc, .int .i64 q.f.op, .string q.f.dim, .string q.f.val, .slice q.f.A q.f.n q.f.c, .slice q.hA q.hn q.hc, .int .i64 q.order, .int .i64 q.limit] := by
      have := Blk.new (w.alloc (.cells #[.slice A n c, .slice B m d] 24)) 42 #[.slice q.tA q.tn q.tc, .int .i64 q.frm, .int .i64 q.upto, .int .i64 q.every, .slice q.bA q.bn q.bc, .int .i64 q.f.op, .string q.f.dim, .string q.f.val, .slice q.f.A q.f.n q.f.c, .slice q.hA q.hn q.hc, .int .i64 q.order, .int .i64 q.limit]
      rw [hw1]; simpa using this
    refine ⟨cell_on hW k0, cell_on hW k1, ?_, ?_, ?_, ?_, ?_, ?_, ?_⟩
    · exact cell_on hW (by rw [kk.cell 0, htn]; rfl)
    · exact cell_on hW (by rw [kk.cell 4, hbA, hbn, hbc]; rfl)
    · exact cell_on hW (by rw [kk.cell 5]; rfl)
    · exact cell_on hW (by rw [kk.cell 6]; rfl)
    · exact cell_on hW (by rw [kk.cell 7]; rfl)
    · exact cell_on hW (by rw [kk.cell 8]; rfl)
    · exact cell_on hW (by rw [kk.cell 9, hhn]; rfl))
  obtain ⟨p1, hp1⟩ := bool_of (fitsP L)
  obtain ⟨p2, hp2⟩ := bool_of (fitsP M)
  obtain ⟨p3, hp3⟩ := bool_of (fitsP q.BY)
  rw [← hbA, ← hbn, ← hbc] at hB
  rw [← htn] at ht
  rw [← hhn] at hh
  have H1 := Lib.hid (fits_any A n c L w1 (hL.row.keep (Nat.le_refl _) hb) hL.len hL.max p1 hp1)
  have H2 := Lib.hid (fits_any B m d M w1 (hM.row.keep (Nat.le_refl _) hb) hM.len hM.max p2 hp2)
  have H3 := Lib.hid (fits_any bA bn bc q.BY w1 (hB.row.keep (Nat.le_refl _) hb) hB.len hB.max p3 hp3)
  have H4 := Lib.hid (parts_any q.f w1 (FIn.keep q.f hf (Nat.le_refl _) hb) 300 (by omega) (by omega))
  have HFF := Lib.hid hf
  have HLL := Lib.hid hL
  have HMM := Lib.hid hM
  have HP1 := Lib.hid hp1
  have HP2 := Lib.hid hp2
  have HP3 := Lib.hid hp3
  have HTN := Lib.hid htn
  have HHN := Lib.hid hhn
  have HW1 := Lib.hid (show w1 = (w.alloc (.cells #[.slice A n c, .slice B m d] 24)).alloc (.cells #[.slice q.tA tn q.tc, .int .i64 q.frm, .int .i64 q.upto, .int .i64 q.every, .slice bA bn bc, .int .i64 q.f.op, .string q.f.dim, .string q.f.val, .slice q.f.A q.f.n q.f.c, .slice q.hA hn q.hc, .int .i64 q.order, .int .i64 q.limit] 42) by rw [hw1, hbA, hbn, hbc, htn, hhn])
  obtain ⟨c0, c1, d0, d4, d5, d6, d7, d8, d9⟩ := HC.out w1 (Below.refl _ _)
  rw [← hbA, ← hbn, ← hbc, ← htn, ← hhn]
  clear hw1 hb hL hM hB hf hp1 hp2 hp3 htn hhn hbA hbn hbc
  go_enter Try.func18, Try.ntmps18
  go_upto_region 1 with fail
  rw [← HW1.out]
  go_upto_region 2 with (go_at_call 40; refine H1.out.mono ?_; rintro e w2 ⟨rfl, rfl⟩)
  go_upto_region 3 with (go_at_call 40; refine H2.out.mono ?_; rintro e w2 ⟨rfl, rfl⟩)
  go_upto_region 4 with (go_at_call 40; refine H3.out.mono ?_; rintro e w2 ⟨rfl, rfl⟩)
  cases p1 with
  | false =>
    go_wp2_with fail
    go_ret
    exact ⟨⟨false, rfl, fun h => by cases h⟩, HB.out⟩
  | true =>
  cases p2 with
  | false =>
    go_wp2_with fail
    go_ret
    exact ⟨⟨false, rfl, fun h => by cases h⟩, HB.out⟩
  | true =>
  cases p3 with
  | false =>
    go_wp2_with fail
    go_ret
    exact ⟨⟨false, rfl, fun h => by cases h⟩, HB.out⟩
  | true =>
  by_cases t30 : 30 < tn
  · have t30z : (30 : Int) < (tn : Int) := by omega
    go_wp2_with fail
    go_ret
    exact ⟨⟨false, rfl, fun h => by cases h⟩, HB.out⟩
  have t30z : ¬ (30 : Int) < (tn : Int) := by omega
  by_cases h30 : 30 < hn
  · have h30z : (30 : Int) < (hn : Int) := by omega
    go_wp2_with fail
    go_ret
    exact ⟨⟨false, rfl, fun h => by cases h⟩, HB.out⟩
  have h30z : ¬ (30 : Int) < (hn : Int) := by omega
  by_cases htot : q.f.tot < 300
  · have HTOT := Lib.hid htot
    have HDP := Lib.hid (Nat.le_trans (depth_le_tot q.f) (by omega : q.f.tot ≤ 1000000))
    obtain ⟨pr, hpr⟩ := bool_of (rightP L M)
    have HPR := Lib.hid hpr
    have HR4 := Lib.hid (fun (W : World) (hW : Below w.heap.size w W) => refright_any A B n c m d L M W (HLL.out.row.keep (Nat.le_refl _) hW) (HMM.out.row.keep (Nat.le_refl _) hW) HLL.out.len HMM.out.len HLL.out.cap HMM.out.cap HLL.out.nil HMM.out.nil (fun s hs => by have := (HP1.out.1 rfl).2 s hs; omega) (fun s hs => by have := (HP2.out.1 rfl).2 s hs; omega) (by have := (HP1.out.1 rfl).1; have := HLL.out.len; omega) (by have := (HP2.out.1 rfl).1; have := HMM.out.len; omega) pr HPR.out)
    have HD5 := Lib.hid (fun (W : World) (hW : Below w.heap.size w W) => depth_any q.f W (FIn.keep q.f HFF.out (Nat.le_refl _) hW) HDP.out)
    obtain ⟨dp, hdp⟩ : ∃ x, x = q.f.depth := ⟨_, rfl⟩
    rw [← hdp] at HD5
    have hdp3 : dp < 300 := by rw [hdp]; exact Nat.lt_of_le_of_lt (depth_le_tot q.f) htot
    have HDQ := Lib.hid hdp
    clear htot hpr hdp
    go_upto_region 6 with (go_at_call 46; refine H4.out.mono ?_; rintro e w2 ⟨⟨r, rfl, hr⟩, hb2⟩; have HB2 := Lib.hid hb2; have hr3 : r < 300 := (by have := HTOT.out; rcases hr with ⟨h1, h2⟩ | ⟨h1, h2, h3⟩ <;> omega); have hr4 : 0 ≤ r := (by rcases hr with ⟨h1, h2⟩ | ⟨h1, h2, h3⟩ <;> omega); clear hr hb2)
    clear c0 c1 d0 d4 d5 d6 d7 d8 d9
    obtain ⟨c0, c1, d0, d4, d5, d6, d7, d8, d9⟩ := HC.out w2 HB2.out
    clear d0 d4 d9
    go_upto_region 7 with (go_at_call 42; refine (HR4.out w2 (HB.out.trans (HB2.out.mono HB.out.size))).mono ?_; rintro e w3 ⟨rfl, hb3⟩; have HB3 := Lib.hid hb3; clear hb3)
    have HB13 := Lib.hid (bthen HB2.out HB3.out)
    clear c0 c1 d5 d6 d7 d8
    obtain ⟨c0, c1, d0, d4, d5, d6, d7, d8, d9⟩ := HC.out w3 HB13.out
    clear c0 c1 d0 d4 d9
    go_upto_region 8 with (go_at_call 47; refine (HD5.out w3 (HB.out.trans (HB13.out.mono HB.out.size))).mono ?_; rintro e w4 ⟨rfl, hb4⟩; have HB4 := Lib.hid hb4; clear hb4)
    have HBE := Lib.hid (show Below w.heap.size w w4 from HB.out.trans ((bthen HB13.out HB4.out).mono HB.out.size))
    clear d5 d6 d7 d8
    cases pr with
    | false =>
      go_wp2_with fail
      go_ret
      exact ⟨⟨false, rfl, fun h => by cases h⟩, HBE.out⟩
    | true =>
    by_cases h60 : dp ≤ 60
    · have h60z : (dp : Int) ≤ 60 := by omega
      have HFIN := Lib.hid (show FitQ L M q from ⟨by simpa using HP1.out, by simpa using HP2.out, by simpa using HP3.out, by rw [← HTN.out]; omega, by rw [← HHN.out]; omega, HTOT.out, by simpa using HPR.out, by rw [← HDQ.out]; exact h60⟩)
      go_wp2_with fail
      go_ret
      exact ⟨⟨true, rfl, fun _ => HFIN.out⟩, HBE.out⟩
    · have h60z : ¬ (dp : Int) ≤ 60 := by omega
      go_wp2_with fail
      go_ret
      exact ⟨⟨false, rfl, fun h => by cases h⟩, HBE.out⟩
  · have HTOT := Lib.hid htot
    clear htot
    go_wp2_with (go_at_call 46; refine H4.out.mono ?_; rintro e w2 ⟨⟨r, rfl, hr⟩, hb2⟩; have HB2 := Lib.hid hb2; have hr3 : ¬ r < 300 := (by have := HTOT.out; rcases hr with ⟨h1, h2⟩ | ⟨h1, h2, h3⟩ <;> omega); have hr4 : r ≤ 3000000000300 := (by rcases hr with ⟨h1, h2⟩ | ⟨h1, h2, h3⟩ <;> omega); clear hr hb2)
    go_ret
    exact ⟨⟨false, rfl, fun h => by cases h⟩, HB.out.trans (HB2.out.mono HB.out.size)⟩
end Go.Proofs.Ytgaallkdfcckpaa
