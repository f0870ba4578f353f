import Derived.Test.YtmeheaapfdldeaaV
import Derived.Maps.AppendAt
namespace Go.Proofs.Ytmeheaapfdldeaa
open Go.RowKit
set_option linter.unusedSimpArgs false
set_option maxRecDepth 100000 in
set_option maxHeartbeats 2000000 in
theorem writes_any (A : Option Addr) (n c : Nat) (L : List Act5) (w : World) (hS0 : Script w A L) (hz : n = L.length) (_hn : n ≤ 9223372036854775807) (hL : ∀ a ∈ L, (-9223372036854775808 ≤ a.n ∧ a.n ≤ 9223372036854775807) ∧ a.s.size ≤ 9223372036854775807) :
    Calls Try.prog 4 #[.slice A n c] w fun e w' => e = .returned (.bool true) ∧ Below w.heap.size w w' := by
  have HZ := Lib.hid hz
  have HL := Lib.hid hL
  clear hz hL
  obtain ⟨i0, hi0, hz0, hz1, hz2⟩ := info_parts Try.info5
  go_enter Try.func4, Try.ntmps4
  go_wp2_with fail
  go_loopw [3, 4, 5] (fun b0 d0 i wr => ∃ (k : Nat) (X : List Int) (b d : Value), b = b0 ∧ d = d0 ∧ k ≤ n ∧ k ≤ 60 ∧ i = .int .i64 k ∧ XV wr b X ∧ wr.ownsRow w.heap.size 5 1 d X.length (X.map (Value.int .u8)) ∧ Apart b d ∧ X.length ≤ k * 840 ∧ Below w.heap.size w wr)
    (fun _ _ i _ => n - (intOf i).toNat)
  case atStart => exact ⟨0, [], _, _, rfl, rfl, Nat.zero_le _, by omega, rfl, ⟨none, 0, rfl, Nat.le_refl _, .inl rfl, fun _ => ⟨rfl, rfl⟩⟩, World.ownsRow_nil _ _ _ _, fun _ _ _ _ _ _ h => by simp at h, by simp, Below.refl _ _⟩
  case round =>
    obtain ⟨k, X, b, d, rfl, rfl, hk, hk6, rfl, hx, hown, hap, hlen, hB⟩ := hrel
    by_cases hlt : k < n ∧ k < 60
    · obtain ⟨hlt, hlt6⟩ := hlt
      have hkz : k < L.length := by have := HZ.out; omega
      obtain ⟨b0, off, hA', c0, c1, c2', c3, c4⟩ := (hS0.keep hB).at hkz
      obtain ⟨a, ha⟩ : ∃ a, a = L[k] := ⟨_, rfl⟩
      rw [← ha] at c0 c1 c2' c3 c4
      obtain ⟨⟨n1, n2⟩, n3⟩ := HL.out a (by rw [ha]; exact List.getElem_mem _)
      clear ha
      subst hA'
      have hk0 : (0 : Int) ≤ (k : Int) := by omega
      have hk1 : (k : Int) < (n : Int) := by omega
      have hk2 : (k : Int) < 60 := by omega
      by_cases hg : a.s.size ≤ 400
      · have hg' : ¬ (400 : Int) < (a.s.size : Int) := by omega
        obtain ⟨w4, hw4⟩ : ∃ w4, w4 = wr.alloc (.cells #[.int .i64 a.kind, .int .i64 a.n, .int .i64 a.least, .int .i64 a.most, .string a.s] 30) := ⟨_, rfl⟩
        have hx4 : XV w4 b X := by subst hw4; exact hx.keep (bpush (Below.refl _ _) _)
        have hown4 : w4.ownsRow w.heap.size 5 1 d X.length (X.map (Value.int .u8)) := by subst hw4; exact own_keep hown (bpush (Below.refl _ _) _)
        obtain ⟨q, hq⟩ : ∃ q, q = strOfNums X := ⟨_, rfl⟩
        have cvb : Sem.run Try.prog (convert 28 9 b) w4 = .ok (.string q) w4 := by rw [hq]; exact conv_xv hx4
        have b0' : w4.cell? ⟨wr.heap.size, 0, none⟩ = some (.int .i64 a.kind) := by subst hw4; simp
        have b1 : w4.cell? ⟨wr.heap.size, 1, none⟩ = some (.int .i64 a.n) := by subst hw4; simp
        have b4 : w4.cell? ⟨wr.heap.size, 4, none⟩ = some (.string a.s) := by subst hw4; simp
        have hB4 : Below w.heap.size w w4 := by subst hw4; exact bpush hB _
        have hwlt : wr.heap.size < w4.heap.size := by subst hw4; simp
        have hq' := Lib.hid hq
        have hx4' := Lib.hid hx4
        have hown4' := Lib.hid hown4
        have hap' := Lib.hid hap
        have hw4' := Lib.hid hw4
        rw [hw4] at cvb
        have hdj := hown.lt
        clear hq hx hown hx4 hown4 hap hB
        obtain ⟨Ab, cb, hbv, hcb, hrow, hbn⟩ := hx4'.out
        subst hbv
        clear hw4
        go_wp2_with fail
        rw [← hw4'.out]
        have hXl : X.length ≤ 50400 := by omega
        refine (int_any Ab X.length cb X a.n w4 hrow (by omega) rfl hcb n1 n2).mono ?_
        rintro e w5 ⟨g5, q5, rfl, hq5, hown5, hb5⟩
        have hrow5 := MadeB.row hown5
        obtain ⟨l5, hl5⟩ : ∃ l, l = (X ++ encV a.n).length := ⟨_, rfl⟩
        rw [← hl5] at hq5 ⊢
        have HL5 := Lib.hid hl5
        clear hl5
        have b0r := cell_on hb5 b0'
        have b1' := cell_on hb5 b1
        have b4' := cell_on hb5 b4
        have hrowb5 := row_on hb5 hrow
        have hown4b := own_keep hown4'.out hb5
        have hB5 := bthen hB4 hb5
        have hg5 : w4.heap.size ≤ g5 ∧ g5 < w5.heap.size := hown5.lt g5 rfl
        have Hown5 := Lib.hid hown4b
        clear hown5 b0' b1 b4 hrow hB4 hown4b cvb hown4'
        go_wp2_with fail
        refine (text_any Ab X.length cb X a.s w5 hrowb5 (by omega) rfl hcb (by omega)).mono ?_
        rintro e w6 ⟨g6, q6, rfl, hq6, hown6, hb6⟩
        have hrow6 := MadeB.row hown6
        obtain ⟨l6, hl6⟩ : ∃ l, l = (X ++ encV a.s.size ++ sB a.s).length := ⟨_, rfl⟩
        rw [← hl6] at hq6 ⊢
        have HL6 := Lib.hid hl6
        clear hl6
        have kc0 := cell_on hb6 b0r
        have b1 := cell_on hb6 b1'
        have b4 := cell_on hb6 b4'
        have hrowb6 := row_on hb6 hrowb5
        have hrow56 := row_on hb6 hrow5
        have HOWN := Lib.hid (own_keep Hown5.out hb6)
        have hB6 := bthen hB5 hb6
        clear hown6 b0r b1' b4' hrowb5 hrow5 hB5 Hown5
        go_wp2_with fail
        have hsz1 : q.size + (strOfNums (encV a.n)).size ≤ 9223372036854775807 := by rw [hq'.out, str_size, str_size]; have := encV_len a.n; omega
        have hsz2 : q.size + (strOfNums (encV a.s.size ++ sB a.s)).size ≤ 9223372036854775807 := by rw [hq'.out, str_size, str_size, List.length_append, sB_length]; have := encV_len a.s.size; omega
        have hxv6 : XV w6.drew (.slice Ab X.length cb) X := ⟨Ab, cb, rfl, hcb, hrowb6, hbn⟩
        refine wp_region_held_drew (S := fun w' => XV w' (.slice Ab X.length cb) X ∧ Row w' (some ⟨g5, 0, none⟩) ((X ++ encV a.n).map (Value.int .u8)) ∧ Row w' (some ⟨g6, 0, none⟩) ((X ++ encV a.s.size ++ sB a.s).map (Value.int .u8)) ∧ w'.cell? ⟨wr.heap.size, 1, none⟩ = some (.int .i64 a.n) ∧ w'.cell? ⟨wr.heap.size, 4, none⟩ = some (.string a.s) ∧ Below w6.heap.size w6 w') (by kernel_rfl) ⟨hxv6, hrow56, hrow6, b1, b4, (Below.refl _ _).drew⟩ ?_
        intro hHeld
        refine take_want (i := 0) (v := ?v0) rfl (by kernel_rfl) (by kernel_rfl) (by kernel_rfl) (fun _ _ _ h => h) (by rfl) ?y0 (by assumption) ?r0
        case y0 => (intro w hSw; go_simp; all_goals with_reducible rfl)
        (try simp only [Act.put, List.setIfInBounds_toArray, List.set_cons_zero, List.set_cons_succ])
        refine take_want (i := 1) (v := .string q) rfl (by kernel_rfl) (by kernel_rfl) (by kernel_rfl) (fun _ _ _ h => h) (by rfl) ?y1 (by assumption) ?r1
        case y1 => (intro w hSw; have cv := conv_xv hSw.1; rw [← hq'.out] at cv; go_simp; all_goals first | exact cv | with_reducible rfl)
        (try simp only [Act.put, List.setIfInBounds_toArray, List.set_cons_zero, List.set_cons_succ])
        refine take_want (i := 2) (v := ?v2) rfl (by kernel_rfl) (by kernel_rfl) (by kernel_rfl) (fun _ _ _ h => h) (by rfl) ?y2 (by assumption) ?r2
        case y2 => (intro w hSw; go_simp; all_goals with_reducible rfl)
        (try simp only [Act.put, List.setIfInBounds_toArray, List.set_cons_zero, List.set_cons_succ])
        refine take_want (i := 3) (v := .bool false) rfl (by kernel_rfl) (by kernel_rfl) (by kernel_rfl) (fun _ _ _ h => h) (by rfl) ?y3 (by assumption) ?r3
        case y3 => (intro w hSw; go_simp; all_goals first | rfl | simp)
        (try simp only [Act.put, List.setIfInBounds_toArray, List.set_cons_zero, List.set_cons_succ])
        refine take_want (i := 4) (v := ?v4) rfl (by kernel_rfl) (by kernel_rfl) (by kernel_rfl) (fun _ _ _ h => h) (by rfl) ?y4 (by assumption) ?r4
        case y4 => (intro w hSw; go_simp; all_goals with_reducible rfl)
        (try simp only [Act.put, List.setIfInBounds_toArray, List.set_cons_zero, List.set_cons_succ])
        refine take_want (i := 5) (v := ?v5) rfl (by kernel_rfl) (by kernel_rfl) (by kernel_rfl) (fun _ _ _ h => h) (by rfl) ?y5 (by assumption) ?r5
        case y5 => (intro w hSw; go_simp; all_goals with_reducible rfl)
        (try simp only [Act.put, List.setIfInBounds_toArray, List.set_cons_zero, List.set_cons_succ])
        refine take_want (i := 6) (v := .string (strOfNums (X ++ encV a.n))) rfl (by kernel_rfl) (by kernel_rfl) (by kernel_rfl) (fun _ _ _ h => h) (by rfl) ?y6 (by assumption) ?r6
        case y6 => (intro w hSw; have cv := conv_q (c := q5) hSw.2.1 HL5.out rfl; go_simp; all_goals first | exact cv | with_reducible rfl)
        (try simp only [Act.put, List.setIfInBounds_toArray, List.set_cons_zero, List.set_cons_succ])
        refine take_want (i := 7) (v := ?v7) rfl (by kernel_rfl) (by kernel_rfl) (by kernel_rfl) (fun _ _ _ h => h) (by rfl) ?y7 (by assumption) ?r7
        case y7 => (intro w hSw; go_simp; all_goals with_reducible rfl)
        (try simp only [Act.put, List.setIfInBounds_toArray, List.set_cons_zero, List.set_cons_succ])
        refine take_want (i := 8) (v := ?v8) rfl (by kernel_rfl) (by kernel_rfl) (by kernel_rfl) (fun _ _ _ h => h) (by rfl) ?y8 (by assumption) ?r8
        case y8 => (intro w hSw; go_simp; all_goals with_reducible rfl)
        (try simp only [Act.put, List.setIfInBounds_toArray, List.set_cons_zero, List.set_cons_succ])
        refine take_want (i := 9) (v := .int .i64 a.n) rfl (by kernel_rfl) (by kernel_rfl) (by kernel_rfl) (fun _ _ _ h => h) (by rfl) ?y9 (by assumption) ?r9
        case y9 => (intro w hSw; have cl := hSw.2.2.2.1; go_simp; all_goals first | exact cl | with_reducible rfl)
        (try simp only [Act.put, List.setIfInBounds_toArray, List.set_cons_zero, List.set_cons_succ])
        refine wpAnyH_ready (rs := [10]) (by kernel_rfl) (by simp) ?_
        refine AllReadyH.cons rfl (fun K hK => ?_) AllReadyH.nil
        go_simp
        (go_at_call 17; refine (refint_any a.n _ n1 n2).mono ?_; rintro e w7 ⟨g7, q7, rfl, hq7, hown7, hb⟩; have hrow7 := MadeB.row hown7; clear hown7)
        refine hK.out _ _ (⟨hHeld.1.keep hb, row_on hb hHeld.2.1, row_on hb hHeld.2.2.1, cell_on hb hHeld.2.2.2.1, cell_on hb hHeld.2.2.2.2.1, below_on hb hHeld.2.2.2.2.2⟩) (fun hHeld => ?_)
        clear hK K
        (try simp only [Act.put, List.setIfInBounds_toArray, List.set_cons_zero, List.set_cons_succ])
        refine wpAnyH_sub (S' := fun w' => XV w' (.slice Ab X.length cb) X ∧ Row w' (some ⟨g5, 0, none⟩) ((X ++ encV a.n).map (Value.int .u8)) ∧ Row w' (some ⟨g6, 0, none⟩) ((X ++ encV a.s.size ++ sB a.s).map (Value.int .u8)) ∧ w'.cell? ⟨wr.heap.size, 1, none⟩ = some (.int .i64 a.n) ∧ w'.cell? ⟨wr.heap.size, 4, none⟩ = some (.string a.s) ∧ Below w6.heap.size w6 w' ∧ Row w' (some ⟨g7, 0, none⟩) ((encV a.n).map (Value.int .u8))) (fun _ h => ⟨h.1, h.2.1, h.2.2.1, h.2.2.2.1, h.2.2.2.2.1, h.2.2.2.2.2.1⟩) _ _ _ _ ?_
        have hHeld2 := (⟨hHeld.1, hHeld.2.1, hHeld.2.2.1, hHeld.2.2.2.1, hHeld.2.2.2.2.1, hHeld.2.2.2.2.2, hrow7⟩ : (fun w' => XV w' (.slice Ab X.length cb) X ∧ Row w' (some ⟨g5, 0, none⟩) ((X ++ encV a.n).map (Value.int .u8)) ∧ Row w' (some ⟨g6, 0, none⟩) ((X ++ encV a.s.size ++ sB a.s).map (Value.int .u8)) ∧ w'.cell? ⟨wr.heap.size, 1, none⟩ = some (.int .i64 a.n) ∧ w'.cell? ⟨wr.heap.size, 4, none⟩ = some (.string a.s) ∧ Below w6.heap.size w6 w' ∧ Row w' (some ⟨g7, 0, none⟩) ((encV a.n).map (Value.int .u8))) w7)
        clear hHeld
        refine take_want (i := 11) (v := .string (strOfNums (encV a.n))) rfl (by kernel_rfl) (by kernel_rfl) (by kernel_rfl) (fun _ _ _ h => h) (by rfl) ?y11 (by assumption) ?r11
        case y11 => (intro w hSw; have cv := conv_q (c := q7) hSw.2.2.2.2.2.2 rfl rfl; go_simp; all_goals first | exact cv | with_reducible rfl)
        (try simp only [Act.put, List.setIfInBounds_toArray, List.set_cons_zero, List.set_cons_succ])
        refine take_want (i := 12) (v := .string (strOfNums X ++ strOfNums (encV a.n))) rfl (by kernel_rfl) (by kernel_rfl) (by kernel_rfl) (fun _ _ _ h => h) (by rfl) ?y12 (by assumption) ?r12
        case y12 => (intro w hSw; rw [← hq'.out]; go_simp; all_goals first | exact hsz1 | rfl | with_reducible rfl)
        (try simp only [Act.put, List.setIfInBounds_toArray, List.set_cons_zero, List.set_cons_succ])
        refine take_want (i := 13) (v := .bool false) rfl (by kernel_rfl) (by kernel_rfl) (by kernel_rfl) (fun _ _ _ h => h) (by rfl) ?y13 (by assumption) ?r13
        case y13 => (intro w hSw; rw [strOf_app]; go_simp; all_goals first | rfl | simp)
        (try simp only [Act.put, List.setIfInBounds_toArray, List.set_cons_zero, List.set_cons_succ])
        refine take_want (i := 14) (v := ?v14) rfl (by kernel_rfl) (by kernel_rfl) (by kernel_rfl) (fun _ _ _ h => h) (by rfl) ?y14 (by assumption) ?r14
        case y14 => (intro w hSw; go_simp; all_goals with_reducible rfl)
        (try simp only [Act.put, List.setIfInBounds_toArray, List.set_cons_zero, List.set_cons_succ])
        refine take_want (i := 15) (v := ?v15) rfl (by kernel_rfl) (by kernel_rfl) (by kernel_rfl) (fun _ _ _ h => h) (by rfl) ?y15 (by assumption) ?r15
        case y15 => (intro w hSw; go_simp; all_goals with_reducible rfl)
        (try simp only [Act.put, List.setIfInBounds_toArray, List.set_cons_zero, List.set_cons_succ])
        refine take_want (i := 16) (v := ?v16) rfl (by kernel_rfl) (by kernel_rfl) (by kernel_rfl) (fun _ _ _ h => h) (by rfl) ?y16 (by assumption) ?r16
        case y16 => (intro w hSw; go_simp; all_goals with_reducible rfl)
        (try simp only [Act.put, List.setIfInBounds_toArray, List.set_cons_zero, List.set_cons_succ])
        refine take_want (i := 17) (v := .string (strOfNums (X ++ (encV a.s.size ++ sB a.s)))) rfl (by kernel_rfl) (by kernel_rfl) (by kernel_rfl) (fun _ _ _ h => h) (by rfl) ?y17 (by assumption) ?r17
        case y17 => (intro w hSw; have cv := conv_q (c := q6) hSw.2.2.1 HL6.out rfl; rw [List.append_assoc] at cv; go_simp; all_goals first | exact cv | with_reducible rfl)
        (try simp only [Act.put, List.setIfInBounds_toArray, List.set_cons_zero, List.set_cons_succ])
        refine take_want (i := 18) (v := ?v18) rfl (by kernel_rfl) (by kernel_rfl) (by kernel_rfl) (fun _ _ _ h => h) (by rfl) ?y18 (by assumption) ?r18
        case y18 => (intro w hSw; go_simp; all_goals with_reducible rfl)
        (try simp only [Act.put, List.setIfInBounds_toArray, List.set_cons_zero, List.set_cons_succ])
        refine take_want (i := 19) (v := ?v19) rfl (by kernel_rfl) (by kernel_rfl) (by kernel_rfl) (fun _ _ _ h => h) (by rfl) ?y19 (by assumption) ?r19
        case y19 => (intro w hSw; go_simp; all_goals with_reducible rfl)
        (try simp only [Act.put, List.setIfInBounds_toArray, List.set_cons_zero, List.set_cons_succ])
        refine take_want (i := 20) (v := .string a.s) rfl (by kernel_rfl) (by kernel_rfl) (by kernel_rfl) (fun _ _ _ h => h) (by rfl) ?y20 (by assumption) ?r20
        case y20 => (intro w hSw; have cl := hSw.2.2.2.2.1; go_simp; all_goals first | exact cl | with_reducible rfl)
        (try simp only [Act.put, List.setIfInBounds_toArray, List.set_cons_zero, List.set_cons_succ])
        refine wpAnyH_ready (rs := [21]) (by kernel_rfl) (by simp) ?_
        refine AllReadyH.cons rfl (fun K hK => ?_) AllReadyH.nil
        go_simp
        (go_at_call 18; refine (reftext_any a.s _ (by omega)).mono ?_; rintro e w8 ⟨g8, q8, rfl, hq8, hown8, hb⟩; have hrow8 := MadeB.row hown8; clear hown8; obtain ⟨l8, hl8⟩ : ∃ l, l = (encV a.s.size ++ sB a.s).length := ⟨_, rfl⟩; rw [← hl8] at hq8 ⊢; have HL8 := Lib.hid hl8; clear hl8)
        refine hK.out _ _ (⟨hHeld2.1.keep hb, row_on hb hHeld2.2.1, row_on hb hHeld2.2.2.1, cell_on hb hHeld2.2.2.2.1, cell_on hb hHeld2.2.2.2.2.1, below_on hb hHeld2.2.2.2.2.2.1, row_on hb hHeld2.2.2.2.2.2.2⟩) (fun hHeld => ?_)
        clear hK K
        (try simp only [Act.put, List.setIfInBounds_toArray, List.set_cons_zero, List.set_cons_succ])
        refine wpAnyH_sub (S' := fun w' => XV w' (.slice Ab X.length cb) X ∧ Row w' (some ⟨g5, 0, none⟩) ((X ++ encV a.n).map (Value.int .u8)) ∧ Row w' (some ⟨g6, 0, none⟩) ((X ++ encV a.s.size ++ sB a.s).map (Value.int .u8)) ∧ w'.cell? ⟨wr.heap.size, 1, none⟩ = some (.int .i64 a.n) ∧ w'.cell? ⟨wr.heap.size, 4, none⟩ = some (.string a.s) ∧ Below w6.heap.size w6 w' ∧ Row w' (some ⟨g7, 0, none⟩) ((encV a.n).map (Value.int .u8)) ∧ Row w' (some ⟨g8, 0, none⟩) ((encV a.s.size ++ sB a.s).map (Value.int .u8))) (fun _ h => ⟨h.1, h.2.1, h.2.2.1, h.2.2.2.1, h.2.2.2.2.1, h.2.2.2.2.2.1, h.2.2.2.2.2.2.1⟩) _ _ _ _ ?_
        have hHeld2 := (⟨hHeld.1, hHeld.2.1, hHeld.2.2.1, hHeld.2.2.2.1, hHeld.2.2.2.2.1, hHeld.2.2.2.2.2.1, hHeld.2.2.2.2.2.2, hrow8⟩ : (fun w' => XV w' (.slice Ab X.length cb) X ∧ Row w' (some ⟨g5, 0, none⟩) ((X ++ encV a.n).map (Value.int .u8)) ∧ Row w' (some ⟨g6, 0, none⟩) ((X ++ encV a.s.size ++ sB a.s).map (Value.int .u8)) ∧ w'.cell? ⟨wr.heap.size, 1, none⟩ = some (.int .i64 a.n) ∧ w'.cell? ⟨wr.heap.size, 4, none⟩ = some (.string a.s) ∧ Below w6.heap.size w6 w' ∧ Row w' (some ⟨g7, 0, none⟩) ((encV a.n).map (Value.int .u8)) ∧ Row w' (some ⟨g8, 0, none⟩) ((encV a.s.size ++ sB a.s).map (Value.int .u8))) w8)
        clear hHeld
        refine take_want (i := 22) (v := .string (strOfNums (encV a.s.size ++ sB a.s))) rfl (by kernel_rfl) (by kernel_rfl) (by kernel_rfl) (fun _ _ _ h => h) (by rfl) ?y22 (by assumption) ?r22
        case y22 => (intro w hSw; have cv := conv_q (c := q8) hSw.2.2.2.2.2.2.2 HL8.out rfl; go_simp; all_goals first | exact cv | with_reducible rfl)
        (try simp only [Act.put, List.setIfInBounds_toArray, List.set_cons_zero, List.set_cons_succ])
        refine take_want (i := 23) (v := .string (strOfNums X ++ strOfNums (encV a.s.size ++ sB a.s))) rfl (by kernel_rfl) (by kernel_rfl) (by kernel_rfl) (fun _ _ _ h => h) (by rfl) ?y23 (by assumption) ?r23
        case y23 => (intro w hSw; rw [← hq'.out]; go_simp; all_goals first | exact hsz2 | rfl | with_reducible rfl)
        (try simp only [Act.put, List.setIfInBounds_toArray, List.set_cons_zero, List.set_cons_succ])
        refine take_want (i := 24) (v := .bool false) rfl (by kernel_rfl) (by kernel_rfl) (by kernel_rfl) (fun _ _ _ h => h) (by rfl) ?y24 (by assumption) ?r24
        case y24 => (intro w hSw; rw [show strOfNums (X ++ (encV a.s.size ++ sB a.s)) = strOfNums X ++ strOfNums (encV a.s.size ++ sB a.s) from strOf_app _ _]; go_simp; all_goals first | rfl | simp)
        (try simp only [Act.put, List.setIfInBounds_toArray, List.set_cons_zero, List.set_cons_succ])
        refine take_want (i := 25) (v := ?v25) rfl (by kernel_rfl) (by kernel_rfl) (by kernel_rfl) (fun _ _ _ h => h) (by rfl) ?y25 (by assumption) ?r25
        case y25 => (intro w hSw; go_simp; all_goals with_reducible rfl)
        (try simp only [Act.put, List.setIfInBounds_toArray, List.set_cons_zero, List.set_cons_succ])
        refine wpAnyH_done (by kernel_rfl) ?_ _
        obtain ⟨kx, k5, k6, kc1, kc4, kB, -, -⟩ := hHeld2
        clear hxv6 hrow56 hrow6 b1 b4 hrow7 hrow8 hb
        have kB2 := bthen hB6 kB
        go_wp2_with fail
        have own8 := own_keep HOWN.out kB
        have kc0 := cell_on kB kc0
        refine (refint_any a.n _ n1 n2).mono ?_
        rintro e w9 ⟨g9, q9, rfl, hq9, hown9, hb9⟩
        have hrow9 := MadeB.row hown9
        clear hown9
        have k5 := row_on hb9 k5
        have kc0 := cell_on hb9 kc0
        have kc4 := cell_on hb9 kc4
        have own9 := own_keep own8 hb9
        have hB9 := bthen kB2 hb9
        have hgl : g5 < w9.heap.size := by have h1 := hb6.size; have h2 := kB.size; have h3 := hb9.size; omega
        obtain ⟨l9, hl9⟩ : ∃ l, l = (encV a.n).length := ⟨_, rfl⟩
        rw [← hl9] at hq9 ⊢
        have hl9b : l9 ≤ 10 := by rw [hl9]; exact encV_len _
        have HL9 := Lib.hid hl9
        clear hl9 own8 kc1 kx k6 kB kB2
        go_wp2_with (at_builtin; refine wpList_append_own_at _ rfl _ _ 28 rfl w.heap.size 5 i0 (.int .u8 0) 1 1 Try.underlying28 hi0 hz0 hz1 hz2 rfl (by decide) d X.length (X.map (Value.int .u8)) rfl own9 ⟨g9, 0, none⟩ l9 q9 ((encV a.n).map (Value.int .u8)) rfl ?h1 ?h2 ?h3 ?h4 ?h5 ?h6 ?_)
        case h1 => have := HL9.out; simp; omega
        case h2 => exact hrow9.adds _ rfl
        case h3 => intro u hu; simp at hu; obtain ⟨x, _, rfl⟩ := hu; rfl
        case h4 => unfold maxLen; omega
        case h5 => omega
        case h6 => exact hB9.size
        intro d2 w10 own10 hgrow _ hat
        have hne5 : some g5 ≠ d.ownBlock := fun e => by have := hdj g5 e.symm; omega
        have hneb : some wr.heap.size ≠ d.ownBlock := fun e => by have := hdj _ e.symm; omega
        have k5 := row_grown hgrow k5 hne5
        have kc0 := hgrow.cell kc0 hneb
        have kc4 := hgrow.cell kc4 hneb
        have hB10 : Below w.heap.size w w10 := hB9.grown hgrow hB9.size (fun k hk => (hdj k hk).1)
        have hdj2 : ∀ j, d2.ownBlock = some j → g5 ≠ j ∧ w.heap.size ≤ j := by
          intro j hj
          rcases hat with h | h
          · rw [h] at hj; have := hdj j hj; omega
          · rw [h] at hj; cases hj; have := hB9.size; omega
        have ownX : w10.ownsRow w.heap.size 5 1 d2 (X ++ encV a.n).length ((X ++ encV a.n).map (Value.int .u8)) := by rw [List.map_append, List.length_append, ← HL9.out]; exact own10
        have hlen1 : (X ++ encV a.n).length ≤ k * 840 + 10 := by rw [List.length_append, ← HL9.out]; omega
        have HX1 := Lib.hid (show (X ++ encV a.n) ≠ [] by intro h; have := congrArg List.length h; rw [List.length_append, encV, encI_length] at this; have hgb := groups_bd (foldZ a.n).toNat; simp at this; omega)
        have HXV : XV w10 (.slice (some ⟨g5, 0, none⟩) l5 q5) (X ++ encV a.n) := ⟨_, _, by rw [HL5.out], by rw [← HL5.out]; exact hq5, k5, fun h => absurd h HX1.out⟩
        have HXV' := Lib.hid HXV
        have HOX := Lib.hid ownX
        have HLN := Lib.hid hlen1
        clear own10 hgrow hat HXV ownX own9 hB9 hlen1 hrow9
        by_cases hkd : a.kind = 2
        · have hkb : (a.kind == 2) = true := by rw [hkd]; rfl
          have hl5b : l5 ≤ 50500 := by rw [HL5.out]; have := HLN.out; omega
          have hdk := HOX.out.lt
          go_wp2_with fail
          refine (text_any (some ⟨g5, 0, none⟩) l5 q5 (X ++ encV a.n) a.s w10 k5 (by omega) HL5.out hq5 (by omega)).mono ?_
          rintro e w11 ⟨g11, q11, rfl, hq11, hown11, hb11⟩
          have hrow11 := MadeB.row hown11
          have hg11 := hown11.lt g11 rfl
          obtain ⟨X2, hX2⟩ : ∃ X2, X2 = X ++ encV a.n ++ encV a.s.size ++ sB a.s := ⟨_, rfl⟩
          rw [← hX2] at hq11 hrow11 ⊢
          obtain ⟨l11, hl11⟩ : ∃ l, l = X2.length := ⟨_, rfl⟩
          rw [← hl11] at hq11 ⊢
          have HL11 := Lib.hid hl11
          have HX2 := Lib.hid hX2
          have own11 := own_keep HOX.out hb11
          have hB11 := bthen hB10 hb11
          have kc4 := cell_on hb11 kc4
          clear hown11 k5 hB10 hl11 hX2 HXV'
          go_wp2_with fail
          refine (reftext_any a.s _ (by omega)).mono ?_
          rintro e w12 ⟨g12, q12, rfl, hq12, hown12, hb12⟩
          have hrow12 := MadeB.row hown12
          have own12 := own_keep own11 hb12
          have hB12 := bthen hB11 hb12
          have k11 := row_on hb12 hrow11
          have hgl11 : g11 < w12.heap.size := by have := hb12.size; omega
          obtain ⟨l12, hl12⟩ : ∃ l, l = (encV a.s.size ++ sB a.s).length := ⟨_, rfl⟩
          rw [← hl12] at hq12 ⊢
          have hl12b : l12 ≤ 410 := by rw [hl12, List.length_append, sB_length]; have := encV_len a.s.size; omega
          have HL12 := Lib.hid hl12
          have hXl1 : (X ++ encV a.n).length ≤ 50500 := by have := HLN.out; omega
          clear hl12 hown12 own11 hB11 hrow11
          go_wp2_with (at_builtin; refine wpList_append_own_at _ rfl _ _ 28 rfl w.heap.size 5 i0 (.int .u8 0) 1 1 Try.underlying28 hi0 hz0 hz1 hz2 rfl (by decide) d2 (X ++ encV a.n).length ((X ++ encV a.n).map (Value.int .u8)) rfl own12 ⟨g12, 0, none⟩ l12 q12 ((encV a.s.size ++ sB a.s).map (Value.int .u8)) rfl ?h1 ?h2 ?h3 ?h4 ?h5 ?h6 ?_)
          case h1 => rw [List.length_map, ← HL12.out]; omega
          case h2 => exact hrow12.adds _ rfl
          case h3 => intro u hu; obtain ⟨x, _, rfl⟩ := List.mem_map.1 hu; rfl
          case h4 => unfold maxLen; omega
          case h5 => omega
          case h6 => exact hB12.size
          intro d3 w13 own13 hgrow _ hat
          have hne11 : some g11 ≠ d2.ownBlock := fun e => by have := hdk g11 e.symm; omega
          have k11 := row_grown hgrow k11 hne11
          have hB13 : Below w.heap.size w w13 := hB12.grown hgrow hB12.size (fun k hk => (hdk k hk).1)
          have hdj3 : ∀ j, d3.ownBlock = some j → g11 ≠ j := by
            intro j hj
            rcases hat with h | h
            · rw [h] at hj; have := hdk j hj; omega
            · rw [h] at hj; cases hj; omega
          have e2 : X2 = (X ++ encV a.n) ++ (encV a.s.size ++ sB a.s) := by rw [HX2.out, List.append_assoc]
          have el : X2.length = X.length + (encV a.n).length + l12 := by rw [e2, List.length_append, HL12.out, List.length_append]
          have em : X2.map (Value.int .u8) = X.map (Value.int .u8) ++ ((encV a.n).map (Value.int .u8) ++ ((encV a.s.size).map (Value.int .u8) ++ (sB a.s).map (Value.int .u8))) := by rw [e2]; simp
          have ownY : w13.ownsRow w.heap.size 5 1 d3 X2.length (X2.map (Value.int .u8)) := by rw [el, em]; exact own13
          clear el em
          have hlen2 : X2.length ≤ (k + 1) * 840 := by rw [e2, List.length_append, ← HL12.out]; have := HLN.out; omega
          have hne2 : X2 ≠ [] := by intro h; rw [e2] at h; exact HX1.out (List.append_eq_nil_iff.1 h).1
          have HXV2 := Lib.hid (show XV w13 (.slice (some ⟨g11, 0, none⟩) l11 q11) X2 from ⟨_, _, by rw [HL11.out], by rw [← HL11.out]; exact hq11, k11, fun h => absurd h hne2⟩)
          have HOY := Lib.hid ownY
          have HL2 := Lib.hid hlen2
          clear own13 hgrow hat own12 hB12 hrow12 ownY hlen2 hne2 e2 k11
          go_wp2_with fail
          exact ⟨⟨k + 1, X2, _, _, rfl, rfl, by omega, by omega, by go_num, HXV2.out, HOY.out, apart_of hdj3, HL2.out, hB13⟩, by simp [intOf]; omega⟩
        · have hkb : (a.kind == 2) = false := by simp; exact hkd
          go_wp2_with fail
          exact ⟨⟨k + 1, X ++ encV a.n, _, _, rfl, rfl, by omega, by omega, by go_num, HXV'.out, HOX.out, apart_of (fun j hj => (hdj2 j hj).1), by have := HLN.out; omega, hB10⟩, by simp [intOf]; omega⟩
      · have hg' : (400 : Int) < (a.s.size : Int) := by omega
        have hx' := Lib.hid hx
        have hown' := Lib.hid hown
        have hap' := Lib.hid hap
        clear hx hown hap
        go_wp2_with fail
        exact ⟨⟨k + 1, X, _, _, rfl, rfl, by omega, by omega, by go_num, hx'.out.keep (bpush (Below.refl _ _) _), own_keep hown'.out (bpush (Below.refl _ _) _), hap'.out, by omega, bpush hB _⟩, by simp [intOf]; omega⟩
    · have hd : (n ≤ k ∧ ¬ ((k : Int) < (n : Int))) ∨ ((k : Int) < (n : Int) ∧ ¬ ((k : Int) < 60)) := by omega
      obtain ⟨q, hq⟩ : ∃ q, q = strOfNums X := ⟨_, rfl⟩
      have hq' := Lib.hid hq
      have hx' := Lib.hid hx
      have hown' := Lib.hid hown
      clear hlt hq hx hown hap
      rcases hd with ⟨hd, hd3⟩ | ⟨hd3, hd4⟩
      all_goals
        go_wp2_with fail
        refine (alive_any _).mono ?_
        rintro e w6 ⟨rfl, hb⟩
        have cv1 := conv_xv (hx'.out.keep hb)
        have cv2 := conv_own (own_keep hown'.out hb)
        rw [← hq'.out] at cv1 cv2
        go_wp2_with fail
        go_ret
        exact ⟨rfl, bthen hB hb⟩
end Go.Proofs.Ytmeheaapfdldeaa
