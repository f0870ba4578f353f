/- The document's one token. -/
import Derived.Test.YtcpbjcemlkohkaaDoorY
import Derived.Test.YtcpbjcemlkohkaaDoorU
namespace Go.Proofs.YtcpbjcemlkohkaaDoor
open Go.RowKit
set_option linter.unusedSimpArgs false
set_option linter.unusedVariables false
def OneP (w : World) (l : List UInt8) (e : Ending) (w' : World) : Prop :=
  ((∃ t, oneR l = some t ∧ e = .returned (.tuple #[tokV t, .bool true])) ∨ (oneR l = none ∧ ∃ t, e = .returned (.tuple #[tokV t, .bool false]))) ∧ Below w.heap.size w w'
set_option maxRecDepth 100000 in
set_option maxHeartbeats 16000000 in
theorem refone_any (s : ByteArray) (w : World) (hs : s.size ≤ 1000000) (h0 : 0 < s.size) (hf : isL s[0] = true ∨ s[0] = 34 ∨ ∀ c ∈ figs (dat s), isF c = true) : Calls Tryd.prog 21 #[.string s] w (OneP w (dat s)) := by
  obtain ⟨m, hz⟩ : ∃ m, s.size = m + 1 := ⟨s.size - 1, by omega⟩
  have hz9 : m ≤ 1000000 := by omega
  obtain ⟨c, hc⟩ : ∃ c, s[0] = c := ⟨_, rfl⟩
  have hd := dat_cons s h0
  rw [hc] at hd hf
  have HD := Lib.hid hd
  have HF0 := Lib.hid hf
  obtain ⟨a, ha⟩ : ∃ a, a = isL c := ⟨_, rfl⟩
  have HA := Lib.hid ha
  have HC := Lib.hid hc
  have HW1 := Lib.hid (show Below w.heap.size w (w.alloc (.cells #[.int .i64 0, .string ⟨#[]⟩, .int .i64 0] 31)) from bpush (Below.refl _ _) _)
  clear hd hf ha
  cases a with
  | true =>
    have HR := Lib.hid (show oneR (dat s) = some (0, s, 0) by
      rw [HD.out]; unfold oneR; simp only []; rw [if_pos HA.out.symm, ← HD.out, bs_dat])
    go_enter Tryd.func21, Tryd.ntmps21
    go_wp2_with fail
    refine (refletter_any c _ true HA.out).mono ?_
    rintro e w1 ⟨rfl, rfl⟩
    go_wp2_with fail
    exact bodyPost_ret (v := .tuple #[.agg #[.int .i64 0, .string s, .int .i64 0], .bool true]) (by simp [results, Tryd.results21, go_sem]) rfl ⟨.inl ⟨_, HR.out, rfl⟩, (Below.refl _ _).alloc (Nat.le_refl _) _⟩
  | false =>
    by_cases h34 : c = 34
    · have q34 : ((c.toNat : Int) == 34) = true := c_yes (k := 34) (by omega) h34
      have HRR := Lib.hid (show oneR (dat s) = if ((dat s).drop 1).getLast? = some 34 ∧ valB ((dat s).drop 1).dropLast = true then some (2, bsOf ((dat s).drop 1).dropLast, 0) else none by
        conv => lhs; rw [HD.out]
        unfold oneR; simp only []; rw [if_neg (by rw [h34]; decide), if_pos h34])
      have hl1 : ((dat s).drop 1).length = m := by rw [List.length_drop, dat_len]; omega
      clear h34
      by_cases hm : m = 0
      · have HR := Lib.hid (show oneR (dat s) = none by
          rw [HRR.out, if_neg]
          rintro ⟨h, _⟩
          have e : (dat s).drop 1 = [] := List.eq_nil_of_length_eq_zero (by rw [hl1, hm])
          rw [e] at h; cases h)
        have km : ((m : Int) + 1) < 2 := by omega
        have km2 : ((m + 1 : Nat) : Int) < 2 := by omega
        clear hm hl1
        go_enter Tryd.func21, Tryd.ntmps21
        go_wp2_with fail
        refine (refletter_any c _ false HA.out).mono ?_
        rintro e w1 ⟨rfl, rfl⟩
        go_wp2_with fail
        exact bodyPost_ret (v := .tuple #[.agg #[.int .i64 0, .string ⟨#[]⟩, .int .i64 0], .bool false]) (by simp [results, Tryd.results21, go_sem]) rfl ⟨.inr ⟨HR.out, (0, ⟨#[]⟩, 0), rfl⟩, (Below.refl _ _).alloc (Nat.le_refl _) _⟩
      · have km : ¬ ((m : Int) + 1) < 2 := by omega
        have km2 : ¬ ((m + 1 : Nat) : Int) < 2 := by omega
        have hms : m < s.size := by omega
        have hm1 : 1 ≤ m := by omega
        have hml : m - 1 < ((dat s).drop 1).length := by omega
        have HLAST := Lib.hid (show ((dat s).drop 1).getLast? = some s[m] by
          rw [List.getLast?_eq_getElem?, hl1, List.getElem?_eq_getElem hml, drop_get (by omega)]
          congr 2; omega)
        obtain ⟨b, hb⟩ : ∃ b, b = s.extract 1 m := ⟨_, rfl⟩
        have HBD := Lib.hid (show ((dat s).drop 1).dropLast = dat b by
          rw [hb, ext_mid, dat_bs, List.dropLast_eq_take, hl1, List.drop_take])
        have sl := slice_mid s 1 m hm1 (by omega)
        rw [← hb] at sl
        have sl : ∀ W, Sem.run Tryd.prog (Instr.slice 9 (.string s) (some (.int .i64 1)) (some (.int .i64 (m : Int))) none) W = .ok (.string b) W := sl
        have hbs : b.size ≤ 1000000 := by
          have h := congrArg List.length HBD.out
          rw [List.length_dropLast, hl1, dat_len] at h; omega
        have HB := Lib.hid hb
        obtain ⟨r, hr⟩ : ∃ r, r = valB (dat b) := ⟨_, rfl⟩
        have HV := Lib.hid (show r = true ↔ valP b by rw [valP_iff, hr])
        have HVV := Lib.hid hr
        clear hm hl1 hml hb hr
        by_cases hx : s[m] = 34
        · have qx : ((s[m].toNat : Int) == 34) = true := c_yes (k := 34) (by omega) hx
          have qx2 : ((s[m].toNat : Int) != 34) = false := by rw [bne, qx]; rfl
          have HX := Lib.hid hx
          clear hx
          go_enter Tryd.func21, Tryd.ntmps21
          go_wp2_with fail
          refine (refletter_any c _ false HA.out).mono ?_
          rintro e w1 ⟨rfl, rfl⟩
          go_wp2_with fail
          refine (refvalue_any b _ (by omega) r HV.out).mono ?_
          rintro e w2 ⟨rfl, hw2⟩
          have hb2 : Below (w.alloc (.cells #[.int .i64 0, .string ⟨#[]⟩, .int .i64 0] 31)).heap.size (w.alloc (.cells #[.int .i64 0, .string ⟨#[]⟩, .int .i64 0] 31)) w2 := by rw [← hw2]; exact Below.refl _ _
          clear hw2
          have HB2 := Lib.hid (bthen HW1.out hb2)
          obtain ⟨g0, g1, g2⟩ : w2.cell? ⟨w.heap.size, 0, none⟩ = some (.int .i64 0) ∧ w2.cell? ⟨w.heap.size, 1, none⟩ = some (.string ⟨#[]⟩) ∧ w2.cell? ⟨w.heap.size, 2, none⟩ = some (.int .i64 0) := ⟨cell_on hb2 (cell_made (by simp) rfl), cell_on hb2 (cell_made (by simp) rfl), cell_on hb2 (cell_made (by simp) rfl)⟩
          have gf : ∀ o, w2.frozen? ⟨w.heap.size, o, none⟩ = false := fun o => (hb2.frozen (p := ⟨w.heap.size, o, none⟩) (by simp)).trans (by simp)
          have hlt2 : w.heap.size < w2.heap.size := lt_of_cell g0
          clear hb2
          cases r with
          | true =>
            have HR := Lib.hid (show oneR (dat s) = some (2, b, 0) by rw [HRR.out, HLAST.out, HX.out, HBD.out, if_pos ⟨rfl, HVV.out.symm⟩]; rfl)
            go_wp2_with fail
            obtain ⟨r0, r1, r2, rb⟩ := res3 ((.int .i64 2)) ((.string b)) ((.int .i64 0)) (Nat.le_refl w.heap.size) g0 g1 g2
            have RB := Lib.hid rb
            clear rb g0 g1 g2 gf
            generalize ((w2.setCell _ _).setCell _ _).setCell _ _ = w9 at *
            exact bodyPost_ret (v := .tuple #[.agg #[(.int .i64 2), (.string b), (.int .i64 0)], (.bool true)]) (by simp [results, Tryd.results21, go_sem, r0, r1, r2]) rfl ⟨.inl ⟨_, HR.out, rfl⟩, HB2.out.trans RB.out⟩

          | false =>
            have HR := Lib.hid (show oneR (dat s) = none by rw [HRR.out, HBD.out, if_neg]; rintro ⟨_, h⟩; rw [← HVV.out] at h; cases h)
            go_wp2_with fail
            obtain ⟨r0, r1, r2, rb⟩ := res3 ((.int .i64 2)) ((.string b)) ((.int .i64 0)) (Nat.le_refl w.heap.size) g0 g1 g2
            have RB := Lib.hid rb
            clear rb g0 g1 g2 gf
            generalize ((w2.setCell _ _).setCell _ _).setCell _ _ = w9 at *
            exact bodyPost_ret (v := .tuple #[.agg #[(.int .i64 2), (.string b), (.int .i64 0)], (.bool false)]) (by simp [results, Tryd.results21, go_sem, r0, r1, r2]) rfl ⟨.inr ⟨HR.out, (2, b, 0), rfl⟩, HB2.out.trans RB.out⟩

        · have qx : ((s[m].toNat : Int) == 34) = false := c_ne (k := 34) (by omega) hx
          have qx2 : ((s[m].toNat : Int) != 34) = true := by rw [bne, qx]; rfl
          have HR := Lib.hid (show oneR (dat s) = none by rw [HRR.out, HLAST.out, if_neg]; rintro ⟨h, _⟩; exact hx (Option.some.inj h))
          clear hx
          go_enter Tryd.func21, Tryd.ntmps21
          go_wp2_with fail
          refine (refletter_any c _ false HA.out).mono ?_
          rintro e w1 ⟨rfl, rfl⟩
          go_wp2_with fail
          exact bodyPost_ret (v := .tuple #[.agg #[.int .i64 0, .string ⟨#[]⟩, .int .i64 0], .bool false]) (by simp [results, Tryd.results21, go_sem]) rfl ⟨.inr ⟨HR.out, (0, ⟨#[]⟩, 0), rfl⟩, (Below.refl _ _).alloc (Nat.le_refl _) _⟩
    · have q34 : ((c.toNat : Int) == 34) = false := c_ne (k := 34) (by omega) h34
      have HRR := Lib.hid (show oneR (dat s) = numR (dat s) by
        rw [HD.out]; unfold oneR; simp only []; rw [if_neg (by rw [← HA.out]; decide), if_neg h34])
      have HFG := Lib.hid (show ∀ c ∈ figs (dat s), isF c = true by
        rcases HF0.out with h | h | h
        · rw [← HA.out] at h; cases h
        · exact absurd h h34
        · exact h)
      clear h34
      go_enter Tryd.func21, Tryd.ntmps21
      go_wp2_with fail
      refine (refletter_any c _ false HA.out).mono ?_
      rintro e w1 ⟨rfl, rfl⟩
      go_wp2_with fail
      refine (refnumber_any s _ hs h0 HFG.out).mono ?_
      rintro e w2 ⟨hr, rfl⟩
      rcases hr with ⟨v, hv, rfl⟩ | ⟨hv, rfl⟩
      · have HR := Lib.hid (show oneR (dat s) = some (1, s, v) by rw [HRR.out, hv, bs_dat])
        clear hv
        go_wp2_with fail
        exact bodyPost_ret (v := .tuple #[.agg #[.int .i64 1, .string s, .int .i64 v], .bool true]) (by simp [results, Tryd.results21, go_sem]) rfl ⟨.inl ⟨_, HR.out, rfl⟩, (Below.refl _ _).alloc (Nat.le_refl _) _⟩
      · have HR := Lib.hid (show oneR (dat s) = none by rw [HRR.out, hv])
        clear hv
        go_wp2_with fail
        exact bodyPost_ret (v := .tuple #[.agg #[.int .i64 1, .string s, .int .i64 0], .bool false]) (by simp [results, Tryd.results21, go_sem]) rfl ⟨.inr ⟨HR.out, (1, s, 0), rfl⟩, (Below.refl _ _).alloc (Nat.le_refl _) _⟩
end Go.Proofs.YtcpbjcemlkohkaaDoor
