/- The document's Used (12). -/
import Derived.Test.YtgaallkdfcckpaaFW
import Derived.Deep.RegionHeld3
import Derived.Deep.QuietTactic
import Derived.BigQuiet
namespace Go.Proofs.Ytgaallkdfcckpaa
open Go.RowKit Go.Maps Go.Lib Go.Shelf
set_option linter.unusedSimpArgs false
set_option linter.unusedVariables false
theorem first_ex (L : List ByteArray) (s : ByteArray) : ∃ o, FirstAt L s o := by
  by_cases h : ∃ i, ∃ h : i < L.length, L[i] = s
  · obtain ⟨i, hi, hm⟩ : ∃ i, (∃ h : i < L.length, L[i] = s) ∧ ∀ j, j < i → ¬ ∃ h : j < L.length, L[j] = s := by
      obtain ⟨i, hi⟩ := h
      induction i using Nat.strongRecOn with
      | ind i ih =>
        by_cases hj : ∃ j, j < i ∧ ∃ h : j < L.length, L[j] = s
        · obtain ⟨j, hj1, hj2⟩ := hj
          exact ih j hj1 hj2
        · exact ⟨i, hi, fun j hj2 hj3 => hj ⟨j, hj2, hj3⟩⟩
    obtain ⟨h1, h2⟩ := hi
    exact ⟨some i, h1, h2, fun j hj e => hm j hj ⟨by omega, e⟩⟩
  · exact ⟨none, fun j hj e => h ⟨j, hj, e⟩⟩
theorem find_is (A : Option Addr) (n c : Nat) (L : List ByteArray) (s : ByteArray) (o : Option Nat) (ho : FirstAt L s o) (w : World) (hA : Row w A (texts L)) (hz : n = L.length) (hn : n ≤ 9223372036854775807) :
    Calls Try.prog 30 #[.slice A n c, .string s] w fun e w' => e = .returned (.tuple #[.int .i64 ((o.getD 0 : Nat) : Int), .bool o.isSome]) ∧ w' = w := by
  refine (find_any A n c L s w hA hz hn).mono ?_
  rintro e w' ⟨⟨p, hp, rfl⟩, rfl⟩
  obtain rfl := FirstAt.uniq ho hp
  exact ⟨rfl, rfl⟩
set_option maxRecDepth 100000 in
set_option maxHeartbeats 32000000 in
theorem rused_any (A B : Option Addr) (n c m d : Nat) (L M : List ByteArray) (q : QZ) (w : World) (hL : StrsIn w A n c L) (hq : QIn w q) (hb20 : q.bn ≤ 1000) (hl : q.f.dims.length ≤ 1000) (hn20 : n ≤ 1000000) :
    Calls Try.prog 29 #[.agg #[.slice A n c, .slice B m d], .agg #[.slice q.tA q.tn q.tc, .int .i64 q.frm, .int .i64 q.upto, .int .i64 q.every, .slice q.bA q.bn q.bc, .int .i64 q.f.op, .string q.f.dim, .string q.f.val, .slice q.f.A q.f.n q.f.c, .slice q.hA q.hn q.hc, .int .i64 q.order, .int .i64 q.limit]] w (TextsP w (usedL L (q.BY ++ q.f.dims))) := by
  obtain ⟨w1, hw1⟩ : ∃ w1, w1 = (w.alloc (.cells #[.slice A n c, .slice B m d] 24)).alloc (.cells #[.slice q.tA q.tn q.tc, .int .i64 q.frm, .int .i64 q.upto, .int .i64 q.every, .slice q.bA q.bn q.bc, .int .i64 q.f.op, .string q.f.dim, .string q.f.val, .slice q.f.A q.f.n q.f.c, .slice q.hA q.hn q.hc, .int .i64 q.order, .int .i64 q.limit] 42) := ⟨_, rfl⟩
  have hb1 : Below w.heap.size w w1 := by rw [hw1]; exact bpush (bpush (Below.refl _ _) _) _
  have hSB : Blk w1 w.heap.size 24 #[.slice A n c, .slice B m d] := by
    rw [hw1]; exact (Blk.new w 24 #[.slice A n c, .slice B m d]).below (bpush (Below.refl _ _) _)
  have hQB : Blk w1 (w.heap.size + 1) 42 #[.slice q.tA q.tn q.tc, .int .i64 q.frm, .int .i64 q.upto, .int .i64 q.every, .slice q.bA q.bn q.bc, .int .i64 q.f.op, .string q.f.dim, .string q.f.val, .slice q.f.A q.f.n q.f.c, .slice q.hA q.hn q.hc, .int .i64 q.order, .int .i64 q.limit] := by
    have := Blk.new (w.alloc (.cells #[.slice A n c, .slice B m d] 24)) 42 #[.slice q.tA q.tn q.tc, .int .i64 q.frm, .int .i64 q.upto, .int .i64 q.every, .slice q.bA q.bn q.bc, .int .i64 q.f.op, .string q.f.dim, .string q.f.val, .slice q.f.A q.f.n q.f.c, .slice q.hA q.hn q.hc, .int .i64 q.order, .int .i64 q.limit]
    rw [hw1]; simpa using this
  obtain ⟨S, hSe⟩ : ∃ S, S = w.heap.size := ⟨_, rfl⟩
  obtain ⟨Q, hQe⟩ : ∃ Q, Q = w.heap.size + 1 := ⟨_, rfl⟩
  rw [← hSe] at hSB
  rw [← hQe] at hQB
  have HB1 := Lib.hid hb1
  have HSB := Lib.hid hSB
  have HQB := Lib.hid hQB
  have HW1 := Lib.hid hw1
  have HSE := Lib.hid hSe
  have HQE := Lib.hid hQe
  have HL := Lib.hid (hL.keep (Nat.le_refl _) hb1)
  have HQ := Lib.hid (hq.keep (Nat.le_refl _) hb1)
  have hnn := hL.max
  have HB20 := Lib.hid hb20
  have HDL := Lib.hid hl
  have HN20 := Lib.hid hn20
  clear hw1 hb1 hSB hQB hL hq hSe hQe hl hn20 hb20
  go_enter Try.func29, Try.ntmps29
  go_upto_region 1 with fail
  rw [← HW1.out, ← HQE.out, ← HSE.out]
  have HDM := Lib.hid (fun W (hW : Below w1.heap.size w1 W) => dims_any q.f W (FIn.keep q.f HQ.out.f (Nat.le_refl _) hW) HDL.out)
  obtain ⟨DD, hDD⟩ : ∃ D, D = q.f.dims := ⟨_, rfl⟩
  rw [← hDD] at HDM HDL
  have HDD := Lib.hid hDD
  have HBL := Lib.hid (HQ.out.by_.len)
  have HBC := Lib.hid (HQ.out.by_.cap)
  have HBN := Lib.hid (HQ.out.by_.nil)
  have HBR := Lib.hid (HQ.out.by_.row)
  obtain ⟨bA, hbA⟩ : ∃ x, x = q.bA := ⟨_, rfl⟩
  obtain ⟨bn, hbn⟩ : ∃ x, x = q.bn := ⟨_, rfl⟩
  obtain ⟨bc, hbc⟩ : ∃ x, x = q.bc := ⟨_, rfl⟩
  rw [← hbn] at HBL HBC HB20
  rw [← hbA] at HBN HBR
  rw [← hbc] at HBC HBN
  have HBA := Lib.hid hbA
  have HBNE := Lib.hid hbn
  have HBCE := Lib.hid hbc
  have HCEL := Lib.hid (fun W (hW : Below w1.heap.size w1 W) => show W.cell? ⟨Q, 4, none⟩ = some (.slice bA bn bc) ∧ W.cell? ⟨Q, 5, none⟩ = some (.int .i64 q.f.op) ∧ W.cell? ⟨Q, 6, none⟩ = some (.string q.f.dim) ∧ W.cell? ⟨Q, 7, none⟩ = some (.string q.f.val) ∧ W.cell? ⟨Q, 8, none⟩ = some (.slice q.f.A q.f.n q.f.c) from by
    obtain ⟨-, -, -, -, c4, c5, c6, c7, c8, -, -, -⟩ := q_cells (HQB.out.below hW)
    rw [hbA, hbn, hbc]
    exact ⟨c4, c5, c6, c7, c8⟩)
  obtain ⟨c4, c5, c6, c7, c8⟩ := HCEL.out w1 (Below.refl _ _)
  clear hDD hbA hbn hbc
  go_region_held3 (fun w' => (w'.cell? ⟨Q, 4, none⟩ = some (.slice bA bn bc) ∧ w'.cell? ⟨Q, 5, none⟩ = some (.int .i64 q.f.op) ∧ w'.cell? ⟨Q, 6, none⟩ = some (.string q.f.dim) ∧ w'.cell? ⟨Q, 7, none⟩ = some (.string q.f.val) ∧ w'.cell? ⟨Q, 8, none⟩ = some (.slice q.f.A q.f.n q.f.c)) ∧ Below w1.heap.size w1 w')
    (first
      | exact ⟨HCEL.out _ (below_drewN (Below.refl _ _) 1), below_drewN (Below.refl _ _) 1⟩
      | exact ⟨HCEL.out _ (below_drewN (bpush (Below.refl _ _) _) 1), below_drewN (bpush (Below.refl _ _) _) 1⟩
      | exact ⟨HCEL.out _ hbz3, hbz3⟩
      | exact ⟨HCEL.out _ hbz2, hbz2⟩
      | exact ⟨HCEL.out _ hbz, hbz⟩)
    (first
      | (refine step_append_texts rfl _ _ rfl w1.heap.size (.slice (some ⟨w1.heap.size, 0, none⟩) 0 0) 0 [] rfl bA bn bc q.BY rfl ?own ?row HBL.out HBC.out HBN.out ?q1 ?q2 ?_
         case own => exact own_dr (own_empty (Nat.le_refl _)) 1
         case row => exact row_dr (HBR.out.keep (Nat.le_refl _) (bpush (Below.refl _ _) _)) 1
         case q1 => have := HB20.out; omega
         case q2 => simp
         intro v1 w6 ho1 hg1 _
         have hbz : Below w1.heap.size w1 w6 := (below_drewN (bpush (Below.refl _ _) _) 1).trans (grown_below (own_dr (own_empty (Nat.le_refl _)) 1) hg1 (by simp)))
      | (go_at_call 57
         refine (HDM.out _ hbz).mono ?_
         rintro e w7 ⟨v7, rfl, ho7, hb7⟩
         have hbz2 : Below w1.heap.size w1 w7 := bthen hbz hb7
         have ho1' := own_below ho1 hb7
         obtain ⟨A7, c7', rfl, hr7, hc7, hn7⟩ := own_slice ho7)
      | (refine step_append_texts rfl _ _ rfl w1.heap.size v1 (0 + bn) ([] ++ texts q.BY) rfl A7 DD.length c7' DD rfl ho1' hr7 rfl hc7 hn7 ?q1 ?q2 ?_
         case q1 => have := HB20.out; have := HDL.out; omega
         case q2 => exact hbz2.size
         intro v2 w8 ho2 hg2 _
         have hbz3 : Below w1.heap.size w1 w8 := hbz2.trans (grown_below ho1' hg2 hbz2.size)))
  obtain ⟨A8, k8, rfl, hr8, hc8, hn8⟩ := own_slice ho2
  have HB18 := Lib.hid hbz3
  obtain ⟨kl, hkl⟩ : ∃ kl, kl = 0 + bn + DD.length := ⟨_, rfl⟩
  have HKL := Lib.hid (show kl = (q.BY ++ q.f.dims).length by rw [hkl, List.length_append, HBL.out, HDD.out]; omega)
  have hkl2 : kl ≤ 9223372036854775807 := by have := HB20.out; have := HDL.out; omega
  have HR8 := Lib.hid (show Row w8 A8 (texts (q.BY ++ q.f.dims)) by
    have h := hr8
    rw [List.nil_append, texts_append, HDD.out] at h
    exact h)
  rw [← hkl]
  rw [← hkl] at hc8
  have HC8 := Lib.hid hc8
  clear ho2 hg2 ho1 ho1' hg1 hr7 hc7 hn7 ho7 hb7 hbz hbz2 hbz3 hr8 hc8 hn8 hkl c4 c5 c6 c7 c8
  go_upto_region 4 with fail
  go_loopw [6, 7] (fun v6 v7 wr => ∃ (k : Nat) (v : Value), k ≤ n ∧ v7 = .int .i64 k ∧ v = v6 ∧ Hid (wr.ownsRow w8.heap.size 9 1 v (usedL (L.take k) (q.BY ++ q.f.dims)).length (texts (usedL (L.take k) (q.BY ++ q.f.dims)))) ∧ Hid (Below w8.heap.size w8 wr)) (fun _ i _ => n - (intOf i).toNat)
  case atStart => exact ⟨0, _, by omega, rfl, rfl, Lib.hid (World.ownsRow_nil _ _ _ _), Lib.hid (Below.refl _ _)⟩
  case round =>
    obtain ⟨k, vv, hk, rfl, rfl, HO, HB⟩ := hrel
    have HB1R := Lib.hid (bthen HB18.out HB.out)
    obtain ⟨s0, s1⟩ := s_cells (HSB.out.below HB1R.out)
    clear s1
    by_cases hlt : k < n
    · have hkz0 : (0 : Int) ≤ (k : Int) := by omega
      have hkz1 : (k : Int) < (n : Int) := by omega
      have hkz : k < L.length := by have := HL.out.len; omega
      obtain ⟨b, off, hAe, q0⟩ := text_cell (HL.out.row.keep (Nat.le_refl _) HB1R.out) hkz
      obtain ⟨x, hx⟩ : ∃ x, x = L[k]'hkz := ⟨_, rfl⟩
      rw [← hx] at q0
      have HSN := Lib.hid (usedL_snoc L (q.BY ++ q.f.dims) k hkz)
      rw [← hx] at HSN
      have hlen : (usedL (L.take k) (q.BY ++ q.f.dims)).length ≤ k := Nat.le_trans (List.length_filter_le _ _) (List.length_take_le _ _)
      obtain ⟨o, ho⟩ := first_ex (q.BY ++ q.f.dims) x
      have HC := Lib.hid (find_is A8 kl k8 (q.BY ++ q.f.dims) x o ho wr (HR8.out.keep (Nat.le_refl _) HB.out) HKL.out hkl2)
      obtain ⟨r, hr⟩ : ∃ r, r = o.isSome := ⟨_, rfl⟩
      have HRE := Lib.hid (show inT (q.BY ++ q.f.dims) x = r by rw [hr]; exact (first_mem ho).symm)
      obtain ⟨og, hog⟩ : ∃ g, g = o.getD 0 := ⟨_, rfl⟩
      rw [← hr, ← hog] at HC
      rw [HRE.out] at HSN
      obtain ⟨U, hU⟩ : ∃ U, U = usedL (L.take k) (q.BY ++ q.f.dims) := ⟨_, rfl⟩
      rw [← hU] at HSN hlen HO
      have HLEN := Lib.hid (show (U.length + 1) * 16 ≤ 140737488355328 by have := HN20.out; omega)
      rw [hAe] at s0
      clear hlt hx hr hog hAe hU hlen ho
      cases r with
      | true =>
        obtain ⟨wb, hwb⟩ : ∃ wb, wb = wr.alloc (.cells #[.string x] 9) := ⟨_, rfl⟩
        have hbb : Below wr.heap.size wr wb := by rw [hwb]; exact bpush (Below.refl _ _) _
        have HOB := Lib.hid (own_below HO.out hbb)
        have HRB := Lib.hid (show Row wb (some ⟨wr.heap.size, 0, none⟩) (texts [x]) by rw [hwb]; exact Row.made (t := 9) rfl rfl)
        have HBB := Lib.hid (bthen HB.out hbb)
        have HZB := Lib.hid HBB.out.size
        have HNN := Lib.hid (show (some (⟨wr.heap.size, 0, none⟩ : Addr)) = none → 1 = 0 from fun h => by cases h)
        have HWB := Lib.hid hwb
        clear hwb hbb
        go_wp2_with (first
          | (at_builtin; rw [← HWB.out]; refine wpList_append_texts rfl _ _ rfl w8.heap.size vv U.length (texts U) rfl (some ⟨wr.heap.size, 0, none⟩) 1 1 [x] rfl HOB.out HRB.out rfl (Nat.le_refl _) HNN.out HLEN.out HZB.out ?_; intro v3 w5 ho3 hg3 _; have HO3 := Lib.hid ho3; have HB3 := Lib.hid (HBB.out.trans (grown_below HOB.out hg3 HZB.out)); clear ho3 hg3)
          | (go_at_call 30; refine HC.out.mono ?_; rintro e w5 ⟨rfl, hw5⟩; obtain rfl : wr = w5 := hw5.symm))
        go_roundw
        case rel => exact ⟨k + 1, v3, by omega, by go_num, rfl, Lib.hid (by rw [HSN.out]; have := HO3.out; rw [texts_append] at this; simpa using this), HB3⟩
        case measure => simp [intOf]; omega
      | false =>
        go_wp2_with (go_at_call 30; refine HC.out.mono ?_; rintro e w5 ⟨rfl, hw5⟩; obtain rfl : wr = w5 := hw5.symm)
        go_roundw
        case rel => exact ⟨k + 1, vv, by omega, by go_num, rfl, Lib.hid (by rw [HSN.out]; simpa using HO.out), HB⟩
        case measure => simp [intOf]; omega
    · obtain rfl : k = n := by omega
      have hkz1 : ¬ (k : Int) < (k : Int) := by omega
      have HE := Lib.hid (show L.take k = L from List.take_of_length_le (by have := HL.out.len; omega))
      clear hlt
      go_wp2_with fail
      go_ret
      exact ⟨vv, rfl, by have := own_lower HO.out (bthen HB1.out HB18.out).size; rw [HE.out] at this; exact this, bthen HB1.out HB1R.out⟩
end Go.Proofs.Ytgaallkdfcckpaa
