import Derived.Test.YtmeheaapfdldeaaP
namespace Go.Proofs.Ytmeheaapfdldeaa
open Go.RowKit
set_option linter.unusedSimpArgs false
theorem Script.keep2 {w w' : World} {A : Option Addr} {L : List Act5} (h : Script w A L) (hb : Below w.heap.size w w') : Script w' A L := h.keep hb
set_option maxRecDepth 100000 in
set_option maxHeartbeats 2000000 in
theorem back_any (A : Option Addr) (n c : Nat) (L : List Act5) (A2 : Option Addr) (m c2 : Nat) (bs : List Int) (w : World) (hS0 : Script w A L) (hz : n = L.length) (_hn : n ≤ 9223372036854775807) (hL : ∀ a ∈ L, (-9223372036854775808 ≤ a.n ∧ a.n ≤ 9223372036854775807) ∧ a.s.size ≤ 9223372036854775807)
    (hA2 : A2 = none → c2 = 0) (hR0 : Row w A2 (bs.map (Value.int .u8))) (hm : m = bs.length) (hmc : m ≤ c2) (hbs : bytes bs) :
    Calls Try.prog 6 #[.slice A n c, .slice A2 m c2] w fun e w' => e = .returned (.bool true) ∧ Below w.heap.size w w' := by
  have HZ := Lib.hid hz
  have HL := Lib.hid hL
  have HM := Lib.hid hm
  have HB := Lib.hid hbs
  clear hz hL hm hbs
  go_enter Try.func6, Try.ntmps6
  go_wp2_with fail
  go_loopw [5, 6, 7] (fun x nn i wr => ∃ k j : Nat, k ≤ n ∧ k ≤ 60 ∧ i = .int .i64 k ∧ nn = .int .i64 j ∧ j ≤ k ∧ Hid (flatA (L.take j) = flatA (L.take k)) ∧ XV wr x (flatA (L.take k)) ∧ (flatA (L.take k)).length ≤ k * 420 ∧ Below w.heap.size w wr)
    (fun _ _ i _ => n - (intOf i).toNat)
  case atStart => exact ⟨0, 0, Nat.zero_le _, by omega, rfl, rfl, Nat.le_refl _, rfl, ⟨none, 0, rfl, Nat.le_refl _, .inl rfl, fun _ => ⟨rfl, rfl⟩⟩, by simp [flatA], Below.refl _ _⟩
  case round =>
    obtain ⟨k, j, hk, hk6, rfl, rfl, hj, HJ, hx, hlen, hB⟩ := hrel
    by_cases hlt : k < n ∧ k < 60
    · obtain ⟨hlt, hlt6⟩ := hlt
      have hkz : k < L.length := by have := HZ.out; omega
      obtain ⟨b, off, hA', c0, c1, c2', c3, c4⟩ := (Script.keep2 hS0 hB).at hkz
      obtain ⟨a, ha⟩ : ∃ a, a = L[k] := ⟨_, rfl⟩
      rw [← ha] at c0 c1 c2' c3 c4
      obtain ⟨⟨n1, n2⟩, n3⟩ := HL.out a (by rw [ha]; exact List.getElem_mem _)
      have Ha := Lib.hid ha
      clear ha c0 c2' c3
      subst hA'
      have hk0 : (0 : Int) ≤ (k : Int) := by omega
      have hk1 : (k : Int) < (n : Int) := by omega
      by_cases hg : a.s.size ≤ 400
      · obtain ⟨X, hX⟩ : ∃ X, X = flatA (L.take k) := ⟨_, rfl⟩
        have hsucc := flat_succ_good hkz (by rw [← Ha.out]; exact hg)
        rw [← hX, ← Ha.out] at hsucc
        rw [← hX] at hx hlen
        obtain ⟨Ax, cx, rfl, hcx, hrow, -⟩ := hx
        have HX := Lib.hid hX
        have HSU := Lib.hid hsucc
        clear hX hsucc HJ
        have hg' : (a.s.size : Int) ≤ 400 := by omega
        have hXl : X.length ≤ 30000 := by omega
        go_wp2_with fail
        go_region_held3 (fun w' => (w'.cell? ⟨b, off + k * 5 + 1, none⟩ = some (.int .i64 a.n) ∧ w'.cell? ⟨b, off + k * 5 + 4, none⟩ = some (.string a.s)) ∧ Row w' Ax (X.map (Value.int .u8)) ∧ Below wr.heap.size wr w')
          (first
            | (go_split_ands
               exact ⟨⟨cell_on hb (by assumption), cell_on hb (by assumption)⟩, row_on hb (by assumption), below_on hb (by assumption)⟩)
            | exact ⟨⟨c1, c4⟩, hrow, (Below.refl _ _).drew⟩)
          (first | (go_at_call 15; refine (int_any Ax X.length cx X a.n _ (by go_split_ands; assumption) (by omega) rfl hcx n1 n2).mono ?_; rintro e w6 ⟨g6, q6, rfl, hq6, hown6, hb⟩; have hrow6 := MadeB.row hown6; clear hown6; obtain ⟨l6, hl6⟩ : ∃ l, l = (X ++ encV a.n).length := ⟨_, rfl⟩; rw [← hl6] at hq6 ⊢; have HL6 := Lib.hid hl6; have hl6b : l6 ≤ 40000 := (by (have := encV_len a.n; rw [hl6, List.length_append]; omega)); clear hl6) | (go_at_call 16; refine (text_any (some ⟨g6, 0, none⟩) l6 q6 (X ++ encV a.n) a.s _ hrow6 (by omega) HL6.out hq6 (by omega)).mono ?_; rintro e w7 ⟨g7, q7, rfl, hq7, hown7, hb⟩; have hrow7 := MadeB.row hown7; clear hown7; rw [← HSU.out] at hq7 hrow7 ⊢; obtain ⟨l7, hl7⟩ : ∃ l, l = (flatA (L.take (k + 1))).length := ⟨_, rfl⟩; rw [← hl7] at hq7 ⊢; have HL7 := Lib.hid hl7; clear hl7))
        go_split_ands
        have hlen2 : (flatA (L.take (k + 1))).length ≤ (k + 1) * 420 := by
          rw [HSU.out, List.length_append, List.length_append, List.length_append, sB_length]
          have := encV_len a.n
          have := encV_len a.s.size
          omega
        have hne : flatA (L.take (k + 1)) ≠ [] := by
          intro h; have := congrArg List.length h
          rw [HSU.out, List.length_append, List.length_append, List.length_append, encV, encI_length] at this
          have hgb := groups_bd (foldZ a.n).toNat
          simp at this; omega
        have HNE := Lib.hid hne
        clear hne
        have HLEN := Lib.hid hlen2
        clear hlen2
        go_wp2
        go_roundw
        case rel => exact ⟨k + 1, k + 1, by omega, by omega, by go_num, by go_num, Nat.le_refl _, rfl, ⟨_, _, by rw [← HL7.out], by rw [← HL7.out]; exact hq7, hrow7, fun h => absurd h HNE.out⟩, HLEN.out, bthen hB (by assumption)⟩
        case measure => first | (simp [intOf]; done) | (simp [intOf]; omega)
      · go_wp2
        go_roundw
        case rel => exact ⟨k + 1, j, by omega, by omega, by go_num, rfl, by omega, by show _ = _; rw [HJ.out]; exact (flat_succ_bad hkz (by rw [← Ha.out]; exact hg)).symm, by rw [flat_succ_bad hkz (by rw [← Ha.out]; exact hg)]; exact hx, by rw [flat_succ_bad hkz (by rw [← Ha.out]; exact hg)]; omega, hB⟩
        case measure => first | (simp [intOf]; done) | (simp [intOf]; omega)
    · have hcase : (k = n ∧ k ≤ 60) ∨ (k = 60 ∧ k < n) := by omega
      obtain ⟨Ax, cx, rfl, hcx, hrow, hxn⟩ := hx
      have hx0 : Ax = none → cx = 0 := by
        intro h
        rcases hrow with h2 | ⟨b, off, h2, -⟩
        · exact (hxn (by simpa using h2)).2
        · rw [h] at h2; cases h2
      have hlt0 := hlt
      clear hxn hlt
      have hjn : j ≤ L.length := by have := HZ.out; omega
      obtain ⟨X, hX⟩ : ∃ X, X = flatA (L.take k) := ⟨_, rfl⟩
      have hXl : X.length ≤ 30000 := by rw [hX]; omega
      have hXj : X = flatA (L.take j) := by rw [hX, HJ.out]
      rw [← hX] at hcx hrow ⊢
      have HX := Lib.hid hXj
      clear hX hlen HJ hXj
      have hd : (n ≤ k ∧ ¬ ((k : Int) < (n : Int))) ∨ ((k : Int) < (n : Int) ∧ ¬ ((k : Int) < 60)) := by omega
      clear hcase hlt0
      obtain ⟨M, hM⟩ : ∃ M, M = L.take j := ⟨_, rfl⟩
      have hMl : M.length = j := by rw [hM, List.length_take]; omega
      have HSM : Script w A M := hM ▸ hS0.take j
      have HLM := Lib.hid (show ∀ a ∈ M, (-9223372036854775808 ≤ a.n ∧ a.n ≤ 9223372036854775807) ∧ a.s.size ≤ 9223372036854775807 from fun a ha => HL.out a (by rw [hM] at ha; exact List.mem_of_mem_take ha))
      rw [← hM] at HX
      have HML := Lib.hid hMl
      clear hM hMl hS0 HL HZ hjn
      rcases hd with ⟨hd, hd3⟩ | ⟨hd3, hd4⟩
      all_goals
        go_wp2_with fail
        refine (open_all Ax X.length cx X _ hrow (by omega) rfl hx0).mono ?_
        rintro e w3 ⟨rb, rfl, hrb, hR, hB3⟩
        have hrb0 : w.heap.size ≤ rb := Nat.le_trans hB.size hrb
        have hB4 := bthen hB hB3
        clear hB3 hrow hB
        go_wp2_with fail
        go_loopw [9] (fun i wr => ∃ k : Nat, k ≤ j ∧ i = .int .i64 k ∧ Rd wr rb (flatA (M.drop k)) ∧ Below w.heap.size w wr)
          (fun i _ => j - (intOf i).toNat)
        case atStart => exact ⟨0, Nat.zero_le _, rfl, by rw [List.drop_zero, ← HX.out]; exact hR, hB4⟩
        case round =>
          clear hR hB4
          obtain ⟨p, hpj, rfl, hR, hB4⟩ := hrel
          by_cases hp : p < j
          · have hpz : p < M.length := by have := HML.out; omega
            obtain ⟨b, off, hA', c0, c1, c2', c3, c4⟩ := (Script.keep2 HSM hB4).at hpz
            obtain ⟨a, ha⟩ : ∃ a, a = M[p] := ⟨_, rfl⟩
            rw [← ha] at c0 c1 c2' c3 c4
            obtain ⟨⟨n1, n2⟩, n3⟩ := HLM.out a (by rw [ha]; exact List.getElem_mem _)
            have Ha := Lib.hid ha
            clear ha
            subst hA'
            have hk0 : (0 : Int) ≤ (p : Int) := by omega
            have hk1 : (p : Int) < (n : Int) := by omega
            have hk2 : (p : Int) < (j : Int) := by omega
            have hR' := Lib.hid hR
            clear hR
            by_cases hg : a.s.size ≤ 400
            · have hg' : ¬ (400 : Int) < (a.s.size : Int) := by omega
              go_wp2_with fail
              have hdr := drop_good hpz (by rw [← Ha.out]; exact hg)
              rw [← Ha.out] at hdr
              have hby := flat_bytes (M.drop (p + 1))
              have hR := hR'.out
              rw [hdr] at hR
              obtain ⟨R, hRR⟩ : ∃ R, R = flatA (M.drop (p + 1)) := ⟨_, rfl⟩
              rw [← hRR] at hR hby
              have hrW : wr.heap.size ≠ rb := by have := hR.lt; omega
              obtain ⟨w4, hw4⟩ : ∃ w4, w4 = wr.alloc (.cells #[.int .i64 a.kind, .int .i64 a.n, .int .i64 a.least, .int .i64 a.most, .string a.s] 30) := ⟨_, rfl⟩
              rw [← hw4]
              have b1 : w4.cell? ⟨wr.heap.size, 1, none⟩ = some (.int .i64 a.n) := by subst hw4; simp
              have b4 : w4.cell? ⟨wr.heap.size, 4, none⟩ = some (.string a.s) := by subst hw4; simp
              have hB5 : Below w.heap.size w w4 := by subst hw4; exact bpush hB4 _
              have hR4 := hR.keep (w' := w4) (by subst hw4; exact bpush (Below.refl _ _) _)
              have HRR := Lib.hid hRR
              clear hw4 hdr hR hR' hRR hB4 c0 c1 c2' c3 c4
              refine (act_int rb a.n _ w4 hR4 (bytes_app (encV_bytes _) (bytes_app (sB_bytes _) hby)) n1 n2).mono ?_
              rintro e w5 ⟨rfl, hR5, hg5⟩
              have b1' := grown_cell hg5 hrW b1
              have b4' := grown_cell hg5 hrW b4
              have hB6 := grown_below hg5 hB5 hrb0
              clear hg5 hB5 b1 b4 hR4
              go_wp2_with fail
              refine (act_text rb a.s R w5 hR5 hby (by omega)).mono ?_
              rintro e w6 ⟨rfl, hR6, hg6⟩
              have b1 := grown_cell hg6 hrW b1'
              have b4 := grown_cell hg6 hrW b4'
              have hB7 := grown_below hg6 hB6 hrb0
              clear hg6 hB6 b1' b4' hR5
              go_wp2_with fail
              exact ⟨⟨p + 1, by omega, by go_num, by rw [← HRR.out]; exact hR6, hB7⟩, by simp [intOf]; omega⟩
            · have hg' : (400 : Int) < (a.s.size : Int) := by omega
              have hdr := drop_bad hpz (by rw [← Ha.out]; exact hg)
              go_wp2_with fail
              exact ⟨⟨p + 1, by omega, by go_num, by rw [← hdr]; exact hR'.out.keep (bpush (Below.refl _ _) _), bpush hB4 _⟩, by simp [intOf]; omega⟩
          · have hk2 : ¬ ((p : Int) < (j : Int)) := by omega
            have hR1 : Rd wr rb [] := by have := hR; rw [drop_end (by have := HML.out; omega)] at this; exact this
            have hlw := hB4.size
            have HR0 := Lib.hid (row_on hB4 hR0)
            clear hR HSM HLM HX HML
            by_cases hm4 : m ≤ 400
            · have hm5 : ¬ (400 : Int) < (m : Int) := by omega
              go_wp2_with (go_at_call 26; refine (left_zero rb _ hR1).mono ?_; rintro e w6 ⟨rfl, rfl⟩)
              clear hR1
              refine (open_all A2 m c2 bs _ HR0.out (by omega) HM.out hA2).mono ?_
              rintro e w7 ⟨rq, rfl, hrq, hRq, hB7⟩
              have hrq0 : w.heap.size ≤ rq := Nat.le_trans hlw hrq
              have hB8 := bthen hB4 hB7
              have HR7 := Lib.hid (row_on hB7 HR0.out)
              clear hB7 hB4 HR0
              obtain ⟨v, l, hp⟩ : ∃ v l, numP bs = (v, l) := ⟨_, _, rfl⟩
              have hpl := numP_len hp
              obtain ⟨l1, l2, v1, v2⟩ := hpl
              have HP := Lib.hid hp
              rw [← HM.out] at l1 l2
              clear hp
              rcases Nat.eq_zero_or_pos l with hl0 | hl0
              · go_wp2_with fail
                refine (rint_bad rq bs _ _ _ hRq HB.out v l HP.out (.inl hl0)).mono ?_
                rintro e w8 ⟨rfl, hRq8, hg8⟩
                have hB9 := grown_below hg8 hB8 hrq0
                clear hg8 hB8 hRq HR7
                go_wp2_with (first | (go_at_call 10; refine (alive_any _).mono ?_; rintro e w9 ⟨rfl, hb⟩) | (go_at_call 26; refine (left_of HM.out.symm rq _ (hRq8.keep hb)).mono ?_; rintro e w10 ⟨rfl, rfl⟩))
                go_ret
                exact ⟨rfl, bthen hB9 hb⟩
              · go_wp2_with fail
                refine (rint_good rq bs _ _ _ hRq HB.out v l HP.out hl0 v1 v2).mono ?_
                rintro e w8 ⟨rfl, hRq8, hg8⟩
                have hB9 := grown_below hg8 hB8 hrq0
                have henc : encV v = bs.take l := numP_back HB.out HP.out hl0
                have hrow2 : Row w8 A2 (bs.map (Value.int .u8)) := row_on hB9 hR0
                obtain ⟨b2, off2, rfl⟩ := hrow2.head (by rw [← HM.out]; omega)
                have hrow3 : Row w8 (some ⟨b2, off2, none⟩) ((bs.take l).map (Value.int .u8)) := by
                  rcases hrow2 with h | ⟨b', off', he, hc⟩
                  · have := congrArg List.length h; rw [List.length_map, ← HM.out] at this; simp at this; omega
                  · cases he
                    refine .inr ⟨_, _, rfl, fun j u hu => hc j u ?_⟩
                    rw [List.map_take, List.getElem?_take] at hu
                    split at hu
                    · exact hu
                    · cases hu
                have HLL := Lib.hid (show (bs.take l).length = l by rw [List.length_take, ← HM.out]; omega)
                obtain ⟨ys, hys⟩ : ∃ ys, ys = bs.take l := ⟨_, rfl⟩
                rw [← hys] at henc hrow3 HLL
                have hD : (bs.drop l).length = m - l := by rw [List.length_drop, ← HM.out]
                have HD := Lib.hid hD
                clear hg8 hB8 hRq HR7 hrow2 hys hD
                go_wp2_with fail
                refine (int_of (bs := []) (n := 0) (c := 0) (xs := ys) (by rw [List.nil_append]; exact henc) _ (.inl rfl) (by omega) rfl (by omega) (by omega) (by omega)).mono ?_
                rintro e w9 ⟨gx, cx2, rfl, hcx2, hownx, hb9⟩
                have hrowx := MadeB.row hownx
                clear hownx
                rw [HLL.out] at hcx2 ⊢
                have hrowb := row_on hb9 hrow3
                have hRq9 := hRq8.keep hb9
                have hB10 := bthen hB9 hb9
                clear hrow3 hRq8 hB9 hb9 henc
                obtain ⟨q, hq⟩ : ∃ q, q = strOfNums ys := ⟨_, rfl⟩
                have HQ := Lib.hid hq
                have HLS := Lib.hid HLL.out.symm
                clear hq HLL
                obtain ⟨t, ht⟩ : ∃ t, t = m - l := ⟨_, rfl⟩
                rw [← ht] at HD
                have hbe : ((l : Int) == IntKind.i64.wrap ((m : Int) - (t : Int))) = true := by rw [IntWalk.i64_in _ (by omega)]; simp; omega
                clear ht
                have hlc : (l : Int) ≤ (c2 : Int) := by omega
                have hl1 : (0 : Int) ≤ (l : Int) := by omega
                have hlc' : l ≤ c2 := by omega
                have hV : Below w9.heap.size w9 w9 := Below.refl _ _
                go_wp2_with fail
                go_region_held3 (fun w' => (Sem.run Try.prog (convert 28 9 (.slice (some ⟨gx, 0, none⟩) l cx2)) w' = .ok (.string q) w') ∧
                    (Sem.run Try.prog (convert 28 9 (.slice (some ⟨b2, off2, none⟩) l c2)) w' = .ok (.string q) w') ∧
                    Row w' (some ⟨gx, 0, none⟩) (ys.map (Value.int .u8)) ∧ Row w' (some ⟨b2, off2, none⟩) (ys.map (Value.int .u8)) ∧ Rd w' rq (bs.drop l) ∧
                    Below w9.heap.size w9 w')
                  (first
                    | (go_split_ands
                       exact ⟨conv_q (row_on hb (by assumption)) HLS.out HQ.out, conv_q (row_on hb (by assumption)) HLS.out HQ.out, row_on hb (by assumption), row_on hb (by assumption), rd_on hb (by assumption), below_on hb (by assumption)⟩)
                    | exact ⟨conv_q (w := w9.drew) hrowx HLS.out HQ.out, conv_q (w := w9.drew) hrowb HLS.out HQ.out, hrowx, hrowb, hRq9, (Below.refl _ _).drew⟩)
                  (first | (go_at_call 10; refine (alive_any _).mono ?_; rintro e w6 ⟨rfl, hb⟩) | (go_at_call 26; refine (left_b HD.out rq _ (by go_split_ands; assumption)).mono ?_; rintro e w6 ⟨rfl, hb⟩))
                go_split_ands
                go_wp2
                go_ret
                exact ⟨rfl, bthen hB10 (by assumption)⟩
            · have hm5 : (400 : Int) < (m : Int) := by omega
              go_wp2_with (first | (go_at_call 26; refine (left_zero rb _ hR1).mono ?_; rintro e w6 ⟨rfl, rfl⟩) | (go_at_call 10; refine (alive_any _).mono ?_; rintro e w6 ⟨rfl, hb⟩))
              go_ret
              exact ⟨rfl, bthen hB4 hb⟩
end Go.Proofs.Ytmeheaapfdldeaa
