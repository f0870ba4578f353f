/- The document's numbers. -/
import Derived.Test.YtcpbjcemlkohkaaDoorX
namespace Go.Proofs.YtcpbjcemlkohkaaDoor
open Go.RowKit
set_option linter.unusedSimpArgs false
set_option linter.unusedVariables false
/-- What Number answers. -/
def NumP (w : World) (l : List UInt8) (e : Ending) (w' : World) : Prop :=
  ((∃ v, numR l = some (1, bsOf l, v) ∧ e = .returned (.tuple #[.int .i64 v, .bool true])) ∨ (numR l = none ∧ e = .returned (.tuple #[.int .i64 0, .bool false]))) ∧ w = w'
theorem numA_take (l : List UInt8) (k : Nat) (h : k < l.length) : numV (l.take (k + 1)) = numV (l.take k) * 10 + (l[k].toNat - 48) := by
  rw [List.take_succ_eq_append_getElem h]
  unfold numV
  rw [List.foldl_append]; rfl
theorem numV_split (l : List UInt8) (k : Nat) : numV l = numA (numV (l.take k)) (l.drop k) := by
  unfold numA numV
  rw [← List.foldl_append, List.take_append_drop]
theorem numV_big (l : List UInt8) (k : Nat) (h : k < l.length) (hb : 461168601842738790 < numV (l.take k)) : 4611686018427387904 < numV l := by
  have h1 := numV_split l (k + 1)
  have h2 := numA_ge (l.drop (k + 1)) (numV (l.take (k + 1)))
  rw [numA_take l k h] at h1 h2
  omega
set_option maxRecDepth 100000 in
set_option maxHeartbeats 16000000 in
theorem refnumber_any (s : ByteArray) (w : World) (hs : s.size ≤ 1000000) (h0 : 0 < s.size) (hf : ∀ c ∈ figs (dat s), isF c = true) : Calls Tryd.prog 33 #[.string s] w (NumP w (dat s)) := by
  obtain ⟨z, hz⟩ : ∃ z, s.size = z := ⟨_, rfl⟩
  obtain ⟨fs, hfs⟩ : ∃ fs, fs = figs (dat s) := ⟨_, rfl⟩
  obtain ⟨a, ha⟩ : ∃ a, a = if s[0] = 45 then 1 else 0 := ⟨_, rfl⟩
  have hd := dat_cons s h0
  have hh : (dat s).head? = some s[0] := by rw [hd]; rfl
  have hdr : fs = (dat s).drop a := by
    rw [hfs, ha]; unfold figs; rw [hh]
    by_cases h : s[0] = 45
    · rw [if_pos (by rw [h]), if_pos h]
    · rw [if_neg (by simpa using h), if_neg h]; rfl
  have hfl : fs.length = z - a := by rw [hdr, List.length_drop, dat_len, hz]
  have ha1 : a ≤ 1 := by rw [ha]; split <;> omega
  have HFL := Lib.hid hfl
  have HNR := Lib.hid (show numR (dat s) = if fs = [] ∨ 4611686018427387904 < numV fs ∨ (1 < fs.length ∧ fs.head? = some 48) then none else some (1, bsOf (dat s), if s[0] = 45 then -(numV fs : Int) else (numV fs : Int)) by
    unfold numR; rw [← hfs, hh]; simp only [Option.some.injEq])
  have HFF := Lib.hid (show ∀ (j : Nat) (h : j < fs.length) (h2 : a + j < s.size), fs[j] = s[a + j] ∧ isF s[a + j] = true by
    intro j h h2
    have e : fs[j] = s[a + j] := by subst hdr; exact drop_get h2 _
    exact ⟨e, by rw [← e]; exact hf _ (by rw [← hfs]; exact List.getElem_mem _)⟩)
  have HA := Lib.hid ha
  have hz0 : 0 < z := by omega
  have hz9 : z ≤ 1000000 := by omega
  have haz : a ≤ z := by omega
  by_cases h45 : s[0] = 45
  · have q45 : ((s[0].toNat : Int) == 45) = true := c_yes (k := 45) (by omega) h45
    obtain rfl : a = 1 := by rw [ha, if_pos h45]
    have H45 := Lib.hid h45
    clear h45 ha hd hh hdr hfl hf hfs hs
    go_enter Tryd.func33, Tryd.ntmps33
    go_wp2_with fail
    go_loop [5, 6, 7] (fun v i q => ∃ j : Nat, i = .int .i64 ((1 + j : Nat) : Int) ∧ 1 + j ≤ z ∧ ∃ U : Int, v = .int .i64 U ∧ 0 ≤ U ∧ U ≤ 4611686018427387909 ∧ Hid (U = ((numV (fs.take j) : Nat) : Int))) (fun _ i _ => z - (intOf i).toNat)
    case atStart => exact ⟨0, by go_num, by omega, 0, rfl, by omega, by omega, Lib.hid (by rw [List.take_zero]; rfl)⟩
    case round =>
      obtain ⟨j, rfl, hj, U, rfl, hu0, hu9, HU⟩ := hrel
      obtain ⟨V, hV⟩ : ∃ V, V = numV (fs.take j) := ⟨_, rfl⟩
      rw [← hV] at HU
      have HVV := Lib.hid hV
      have hUV : U = (V : Int) := HU.out
      by_cases hlt : 1 + j < z
      · have hki : ((1 + j : Nat) : Int) < (z : Int) := by omega
        have hks : 1 + j < s.size := by omega
        have hjf : j < fs.length := by rw [HFL.out]; omega
        obtain ⟨e1, e2⟩ : fs[j] = s[1 + j] ∧ isF s[1 + j] = true := by have h := HFF.out j hjf (by omega); simpa using h
        have HE2 := Lib.hid e2.symm
        have hbd := (isF_iff _).1 e2
        have HNX := Lib.hid (show numV (fs.take (j + 1)) = V * 10 + (s[1 + j].toNat - 48) by rw [numA_take fs j hjf, ← hV, e1])
        obtain ⟨x, hx⟩ : ∃ x, s[1 + j].toNat = x := ⟨_, rfl⟩
        rw [hx] at hbd HNX
        clear e1 e2 hV
        by_cases hbig : 461168601842738790 < V
        · have HF := Lib.hid (show numR (dat s) = none by rw [HNR.out, if_pos (.inr (.inl (numV_big fs j hjf (by rw [← HVV.out]; exact hbig))))])
          have kb : (461168601842738790 : Int) < U := by omega
          clear hbig hx hlt hUV
          go_wp2_with fail
          refine (reffigure_any s[1 + j] _ true HE2.out).mono ?_
          rintro e w1 ⟨rfl, rfl⟩
          go_wp2_with fail
          go_ret2
          exact ⟨.inr ⟨HF.out, rfl⟩, rfl⟩
        · have kb : ¬ (461168601842738790 : Int) < U := by omega
          have hu8 : U ≤ 461168601842738790 := by omega
          obtain ⟨y, hy⟩ : ∃ y : Int, (x : Int) = y := ⟨_, rfl⟩
          have HY := Lib.hid hy
          have hy1 : 48 ≤ y := by omega
          have hy2 : y ≤ 57 := by omega
          rw [← hx] at hy
          have HQ := Lib.hid (show ∀ w, Calls Tryd.prog 19 #[.int .u8 y] w fun e w' => e = .returned (.bool true) ∧ w = w' from fun w => by rw [← hy]; exact reffigure_any _ w true HE2.out)
          have HXX := Lib.hid hx
          clear hu9 hUV hx
          clear hbig hlt
          go_wp2_with fail
          refine (HQ.out _).mono ?_
          rintro e w1 ⟨rfl, rfl⟩
          go_wp2_with fail
          go_round
          case rel => exact ⟨j + 1, by go_num, by omega, 10 * U + (y - 48), rfl, by omega, by omega, Lib.hid (by rw [HNX.out]; have := HU.out; have := HY.out; omega)⟩
          case measure => simp [intOf]; omega
      · have hki : ¬ ((1 + j : Nat) : Int) < (z : Int) := by omega
        have hjf : j = fs.length := by rw [HFL.out]; omega
        have HVF := Lib.hid (show V = numV fs by rw [hV, hjf, List.take_length])
        have HUV := Lib.hid hUV
        clear hV hlt
        by_cases hnil : z = 1
        · have HF := Lib.hid (show numR (dat s) = none by rw [HNR.out, if_pos (.inl (List.eq_nil_of_length_eq_zero (by rw [HFL.out]; omega)))])
          have kz : ((z : Int) == 1) = true := by rw [beq_iff_eq]; omega
          clear hnil hUV
          go_wp2_with fail
          go_ret2
          exact ⟨.inr ⟨HF.out, rfl⟩, rfl⟩
        have kz : ((z : Int) == 1) = false := by rw [beq_eq_false_iff_ne]; omega
        have hzA : 1 < z := by omega
        have hzi : (1 : Int) < (z : Int) := by omega
        have HNN := Lib.hid (show fs ≠ [] from fun e => by have h := HFL.out; rw [e] at h; simp at h; omega)
        clear hnil
        by_cases hbig : 4611686018427387904 < V
        · have HF := Lib.hid (show numR (dat s) = none by rw [HNR.out, if_pos (.inr (.inl (by rw [← HVF.out]; exact hbig)))])
          have kb : (4611686018427387904 : Int) < U := by omega
          clear hbig hUV
          go_wp2_with fail
          go_ret2
          exact ⟨.inr ⟨HF.out, rfl⟩, rfl⟩
        have kb : ¬ (4611686018427387904 : Int) < U := by omega
        clear hUV
        have HNB := Lib.hid (show ¬ 4611686018427387904 < numV fs by rw [← HVF.out]; exact hbig)
        clear hbig
        have hks : 1 + 0 < s.size := by omega
        obtain ⟨e1, _⟩ : fs[0]'(by rw [HFL.out]; omega) = s[1] ∧ isF s[1] = true := by have h := HFF.out 0 (by rw [HFL.out]; omega) hks; simpa using h
        have HH := Lib.hid (show fs.head? = some s[1] by rw [List.head?_eq_getElem?, List.getElem?_eq_getElem (by rw [HFL.out]; omega)]; exact congrArg some e1)
        clear e1
        by_cases h48 : s[1] = 48
        · have q48 : ((s[1].toNat : Int) == 48) = true := c_yes (k := 48) (by omega) h48
          by_cases hlong : 1 + 1 < z
          · have kl : ((1 : Int) + 1) < (z : Int) := by omega
            have kl2 : ((1 + 1 : Nat) : Int) < (z : Int) := by omega
            have HF := Lib.hid (show numR (dat s) = none by rw [HNR.out, if_pos (.inr (.inr ⟨by rw [HFL.out]; omega, by rw [HH.out, h48]⟩))])
            clear h48 hlong
            go_wp2_with fail
            go_ret2
            exact ⟨.inr ⟨HF.out, rfl⟩, rfl⟩
          · have kl : ¬ ((1 : Int) + 1) < (z : Int) := by omega
            have kl2 : ¬ ((1 + 1 : Nat) : Int) < (z : Int) := by omega
            have HF := Lib.hid (show numR (dat s) = some (1, bsOf (dat s), -U) by
              rw [HNR.out, if_neg (by
                rintro (h | h | ⟨h, _⟩)
                · exact HNN.out h
                · exact HNB.out h
                · rw [HFL.out] at h; omega), if_pos H45.out, ← HVF.out, ← HUV.out])
            clear h48 hlong
            go_wp2_with fail
            go_ret2
            exact ⟨.inl ⟨_, HF.out, rfl⟩, rfl⟩
        · have q48 : ((s[1].toNat : Int) == 48) = false := c_ne (k := 48) (by omega) h48
          have HF := Lib.hid (show numR (dat s) = some (1, bsOf (dat s), -U) by
              rw [HNR.out, if_neg (by
                rintro (h | h | ⟨_, h⟩)
                · exact HNN.out h
                · exact HNB.out h
                · rw [HH.out] at h; exact h48 (Option.some.inj h)), if_pos H45.out, ← HVF.out, ← HUV.out])
          clear h48
          go_wp2_with fail
          go_ret2
          exact ⟨.inl ⟨_, HF.out, rfl⟩, rfl⟩
  · have q45 : ((s[0].toNat : Int) == 45) = false := c_ne (k := 45) (by omega) h45
    obtain rfl : a = 0 := by rw [ha, if_neg h45]
    have H45 := Lib.hid h45
    clear h45 ha hd hh hdr hfl hf hfs hs
    go_enter Tryd.func33, Tryd.ntmps33
    go_wp2_with fail
    go_loop [5, 6, 7] (fun v i q => ∃ j : Nat, i = .int .i64 ((j : Nat) : Int) ∧ j ≤ z ∧ ∃ U : Int, v = .int .i64 U ∧ 0 ≤ U ∧ U ≤ 4611686018427387909 ∧ Hid (U = ((numV (fs.take j) : Nat) : Int))) (fun _ i _ => z - (intOf i).toNat)
    case atStart => exact ⟨0, by go_num, by omega, 0, rfl, by omega, by omega, Lib.hid (by rw [List.take_zero]; rfl)⟩
    case round =>
      obtain ⟨j, rfl, hj, U, rfl, hu0, hu9, HU⟩ := hrel
      obtain ⟨V, hV⟩ : ∃ V, V = numV (fs.take j) := ⟨_, rfl⟩
      rw [← hV] at HU
      have HVV := Lib.hid hV
      have hUV : U = (V : Int) := HU.out
      by_cases hlt : j < z
      · have hki : ((j : Nat) : Int) < (z : Int) := by omega
        have hks : j < s.size := by omega
        have hjf : j < fs.length := by rw [HFL.out]; omega
        obtain ⟨e1, e2⟩ : fs[j] = s[j] ∧ isF s[j] = true := by have h := HFF.out j hjf (by omega); simpa using h
        have HE2 := Lib.hid e2.symm
        have hbd := (isF_iff _).1 e2
        have HNX := Lib.hid (show numV (fs.take (j + 1)) = V * 10 + (s[j].toNat - 48) by rw [numA_take fs j hjf, ← hV, e1])
        obtain ⟨x, hx⟩ : ∃ x, s[j].toNat = x := ⟨_, rfl⟩
        rw [hx] at hbd HNX
        clear e1 e2 hV
        by_cases hbig : 461168601842738790 < V
        · have HF := Lib.hid (show numR (dat s) = none by rw [HNR.out, if_pos (.inr (.inl (numV_big fs j hjf (by rw [← HVV.out]; exact hbig))))])
          have kb : (461168601842738790 : Int) < U := by omega
          clear hbig hx hlt hUV
          go_wp2_with fail
          refine (reffigure_any s[j] _ true HE2.out).mono ?_
          rintro e w1 ⟨rfl, rfl⟩
          go_wp2_with fail
          go_ret2
          exact ⟨.inr ⟨HF.out, rfl⟩, rfl⟩
        · have kb : ¬ (461168601842738790 : Int) < U := by omega
          have hu8 : U ≤ 461168601842738790 := by omega
          obtain ⟨y, hy⟩ : ∃ y : Int, (x : Int) = y := ⟨_, rfl⟩
          have HY := Lib.hid hy
          have hy1 : 48 ≤ y := by omega
          have hy2 : y ≤ 57 := by omega
          rw [← hx] at hy
          have HQ := Lib.hid (show ∀ w, Calls Tryd.prog 19 #[.int .u8 y] w fun e w' => e = .returned (.bool true) ∧ w = w' from fun w => by rw [← hy]; exact reffigure_any _ w true HE2.out)
          have HXX := Lib.hid hx
          clear hu9 hUV hx
          clear hbig hlt
          go_wp2_with fail
          refine (HQ.out _).mono ?_
          rintro e w1 ⟨rfl, rfl⟩
          go_wp2_with fail
          go_round
          case rel => exact ⟨j + 1, by go_num, by omega, 10 * U + (y - 48), rfl, by omega, by omega, Lib.hid (by rw [HNX.out]; have := HU.out; have := HY.out; omega)⟩
          case measure => simp [intOf]; omega
      · have hki : ¬ ((j : Nat) : Int) < (z : Int) := by omega
        have hjf : j = fs.length := by rw [HFL.out]; omega
        have HVF := Lib.hid (show V = numV fs by rw [hV, hjf, List.take_length])
        have HUV := Lib.hid hUV
        clear hV hlt
        by_cases hnil : z = 0
        · have HF := Lib.hid (show numR (dat s) = none by rw [HNR.out, if_pos (.inl (List.eq_nil_of_length_eq_zero (by rw [HFL.out]; omega)))])
          have kz : ((z : Int) == 0) = true := by rw [beq_iff_eq]; omega
          clear hnil hUV
          go_wp2_with fail
          go_ret2
          exact ⟨.inr ⟨HF.out, rfl⟩, rfl⟩
        have kz : ((z : Int) == 0) = false := by rw [beq_eq_false_iff_ne]; omega
        have hzA : 0 < z := by omega
        have hzi : (0 : Int) < (z : Int) := by omega
        have HNN := Lib.hid (show fs ≠ [] from fun e => by have h := HFL.out; rw [e] at h; simp at h; omega)
        clear hnil
        by_cases hbig : 4611686018427387904 < V
        · have HF := Lib.hid (show numR (dat s) = none by rw [HNR.out, if_pos (.inr (.inl (by rw [← HVF.out]; exact hbig)))])
          have kb : (4611686018427387904 : Int) < U := by omega
          clear hbig hUV
          go_wp2_with fail
          go_ret2
          exact ⟨.inr ⟨HF.out, rfl⟩, rfl⟩
        have kb : ¬ (4611686018427387904 : Int) < U := by omega
        clear hUV
        have HNB := Lib.hid (show ¬ 4611686018427387904 < numV fs by rw [← HVF.out]; exact hbig)
        clear hbig
        have hks : 0 < s.size := by omega
        obtain ⟨e1, _⟩ : fs[0]'(by rw [HFL.out]; omega) = s[0] ∧ isF s[0] = true := by have h := HFF.out 0 (by rw [HFL.out]; omega) hks; simpa using h
        have HH := Lib.hid (show fs.head? = some s[0] by rw [List.head?_eq_getElem?, List.getElem?_eq_getElem (by rw [HFL.out]; omega)]; exact congrArg some e1)
        clear e1
        by_cases h48 : s[0] = 48
        · have q48 : ((s[0].toNat : Int) == 48) = true := c_yes (k := 48) (by omega) h48
          by_cases hlong : 1 < z
          · have kl : (1 : Int) < (z : Int) := by omega
            have kl2 : ((1 : Nat) : Int) < (z : Int) := by omega
            have HF := Lib.hid (show numR (dat s) = none by rw [HNR.out, if_pos (.inr (.inr ⟨by rw [HFL.out]; omega, by rw [HH.out, h48]⟩))])
            clear h48 hlong
            go_wp2_with fail
            go_ret2
            exact ⟨.inr ⟨HF.out, rfl⟩, rfl⟩
          · have kl : ¬ (1 : Int) < (z : Int) := by omega
            have kl2 : ¬ ((1 : Nat) : Int) < (z : Int) := by omega
            have HF := Lib.hid (show numR (dat s) = some (1, bsOf (dat s), U) by
              rw [HNR.out, if_neg (by
                rintro (h | h | ⟨h, _⟩)
                · exact HNN.out h
                · exact HNB.out h
                · rw [HFL.out] at h; omega), if_neg H45.out, ← HVF.out, ← HUV.out])
            clear h48 hlong
            go_wp2_with fail
            go_ret2
            exact ⟨.inl ⟨_, HF.out, rfl⟩, rfl⟩
        · have q48 : ((s[0].toNat : Int) == 48) = false := c_ne (k := 48) (by omega) h48
          have HF := Lib.hid (show numR (dat s) = some (1, bsOf (dat s), U) by
              rw [HNR.out, if_neg (by
                rintro (h | h | ⟨_, h⟩)
                · exact HNN.out h
                · exact HNB.out h
                · rw [HH.out] at h; exact h48 (Option.some.inj h)), if_neg H45.out, ← HVF.out, ← HUV.out])
          clear h48
          go_wp2_with fail
          go_ret2
          exact ⟨.inl ⟨_, HF.out, rfl⟩, rfl⟩
end Go.Proofs.YtcpbjcemlkohkaaDoor
