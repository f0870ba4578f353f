/- The token that a text begins with. -/
import Derived.Test.YtcpbjcemlkohkaaDoorT
namespace Go.Proofs.YtcpbjcemlkohkaaDoor
open Go.RowKit
set_option linter.unusedSimpArgs false
set_option linter.unusedVariables false
theorem c_ne {c : UInt8} {k : Nat} (hk : k < 256) (h : c ≠ UInt8.ofNat k) : ((c.toNat : Int) == (k : Int)) = false := by rw [← c_eq c k hk]; exact beq_eq_false_iff_ne.2 h
theorem c_yes {c : UInt8} {k : Nat} (hk : k < 256) (h : c = UInt8.ofNat k) : ((c.toNat : Int) == (k : Int)) = true := by rw [← c_eq c k hk]; exact beq_iff_eq.2 h
theorem first_dash {r : List UInt8} (h : cnt isF r = 0) : firstT (45 :: r) = none := by
  unfold firstT
  simp only []
  rw [if_neg (by decide), if_pos (.inl trivial), h]
  rfl
theorem cnt_nil {p : UInt8 → Bool} {x : UInt8} {r : List UInt8} (h : p x = false) : cnt p (x :: r) = 0 := by
  unfold cnt; rw [List.takeWhile_cons, if_neg (by rw [h]; decide)]; rfl
theorem first_sign {c : UInt8} {r : List UInt8} (h1 : isL c = false) (h2 : c ≠ 45) (h3 : isF c = false) (h4 : c ≠ 34) : firstT (c :: r) = if sgn c = true then some ((3, bsOf [c], 0), 1) else none := by
  unfold firstT
  simp only []
  rw [if_neg (by rw [h1]; decide), if_neg (by rintro (h | h); exact h2 h; rw [h3] at h; cases h), if_neg h4]
theorem snd_eq (s : ByteArray) (h : 1 < s.size) : (dat s).drop 1 = s[1] :: (dat s).drop 2 := by
  have h1 : 1 < (dat s).length := h
  have h2 : (dat s).drop 1 = (dat s)[1] :: (dat s).drop 2 := List.drop_eq_getElem_cons h1
  exact h2
set_option maxRecDepth 100000 in
set_option maxHeartbeats 8000000 in
theorem first_any (s : ByteArray) (w : World) (hE : Er w) (hs : s.size ≤ 1000000) (h0 : 0 < s.size) : Calls Tryd.prog 16 #[.string s] w (FoundP w (firstT (dat s))) := by
  have HE := Lib.hid hE
  obtain ⟨z, hz⟩ : ∃ z, s.size = z := ⟨_, rfl⟩
  obtain ⟨c, hc⟩ : ∃ c, s[0] = c := ⟨_, rfl⟩
  have HC := Lib.hid hc
  have hz0 : 0 < z := by omega
  have hz9 : z ≤ 1000000 := by omega
  have HD := Lib.hid (show dat s = c :: (dat s).drop 1 by rw [← hc]; exact dat_cons s h0)
  have HW1 := Lib.hid (show Below w.heap.size w (w.alloc (.cells #[.int .i64 0, .string ⟨#[]⟩, .int .i64 0] 31)) from bpush (Below.refl _ _) _)
  obtain ⟨a, ha⟩ : ∃ a, a = isL c := ⟨_, rfl⟩
  have HA := Lib.hid ha
  clear hE ha
  cases a with
  | true =>
    go_enter Tryd.func16, Tryd.ntmps16
    go_wp2_with fail
    refine (letter_any c _ true HA.out).mono ?_
    rintro e w1 ⟨rfl, rfl⟩
    go_wp2_with fail
    refine (word_any s _ hs h0 (by rw [hc]; exact HA.out.symm)).mono ?_
    rintro e w2 ⟨hr, hb2⟩
    have HB2 := Lib.hid (bthen HW1.out hb2)
    obtain ⟨g0, g1, g2⟩ : w2.cell? ⟨w.heap.size, 0, none⟩ = some (.int .i64 0) ∧ w2.cell? ⟨w.heap.size, 1, none⟩ = some (.string ⟨#[]⟩) ∧ w2.cell? ⟨w.heap.size, 2, none⟩ = some (.int .i64 0) := ⟨cell_on hb2 (cell_made (by simp) rfl), cell_on hb2 (cell_made (by simp) rfl), cell_on hb2 (cell_made (by simp) rfl)⟩
    have gf : ∀ o, w2.frozen? ⟨w.heap.size, o, none⟩ = false := fun o => (hb2.frozen (p := ⟨w.heap.size, o, none⟩) (by simp)).trans (by simp)
    have hlt2 : w.heap.size < w2.heap.size := lt_of_cell g0
    clear hb2
    rcases hr with ⟨⟨t0, t1, t2⟩, n, HF, rfl⟩ | ⟨HF, rfl⟩
    · have HF := Lib.hid HF
      unfold tokV
      go_wp2_with fail
      obtain ⟨r0, r1, r2, rb⟩ := res3 ((.int .i64 t0)) ((.string t1)) ((.int .i64 t2)) (Nat.le_refl w.heap.size) g0 g1 g2
      have RB := Lib.hid rb
      clear rb g0 g1 g2 gf
      generalize ((w2.setCell _ _).setCell _ _).setCell _ _ = w9 at *
      exact bodyPost_ret (v := .tuple #[.agg #[(.int .i64 t0), (.string t1), (.int .i64 t2)], (.int .i64 (n : Int))]) (by simp [results, Tryd.results16, go_sem, r0, r1, r2]) rfl ⟨.inl ⟨_, _, HF.out, rfl⟩, HB2.out.trans RB.out⟩
    · have HF := Lib.hid HF
      unfold zeroTok
      go_wp2_with fail
      obtain ⟨r0, r1, r2, rb⟩ := res3 ((.int .i64 0)) ((.string ⟨#[]⟩)) ((.int .i64 0)) (Nat.le_refl w.heap.size) g0 g1 g2
      have RB := Lib.hid rb
      clear rb g0 g1 g2 gf
      generalize ((w2.setCell _ _).setCell _ _).setCell _ _ = w9 at *
      exact bodyPost_ret (v := .tuple #[.agg #[(.int .i64 0), (.string ⟨#[]⟩), (.int .i64 0)], (.int .i64 0)]) (by simp [results, Tryd.results16, go_sem, r0, r1, r2]) rfl ⟨.inr ⟨HF.out, rfl⟩, HB2.out.trans RB.out⟩
  | false =>
    have HL := Lib.hid (show isL c = false from HA.out.symm)
    by_cases h45 : c = 45
    · have q45 : ((c.toNat : Int) == 45) = true := c_yes (k := 45) (by omega) h45
      have H45 := Lib.hid h45
      clear h45
      by_cases hz1 : z = 1
      · have HF := Lib.hid (show firstT (dat s) = none by
          rw [HD.out, H45.out]
          apply first_dash
          have e : (dat s).drop 1 = [] := List.drop_eq_nil_of_le (by rw [dat_len]; omega)
          rw [e]; rfl)
        have qz : ((z : Int) == 1) = true := by simp; omega
        clear hz1
        go_enter Tryd.func16, Tryd.ntmps16
        go_wp2_with fail
        refine (letter_any c _ false HA.out).mono ?_
        rintro e w1 ⟨rfl, rfl⟩
        go_wp2_with fail
        exact bodyPost_ret (v := .tuple #[.agg #[.int .i64 0, .string ⟨#[]⟩, .int .i64 0], .int .i64 0]) (by simp [results, Tryd.results16, go_sem]) rfl ⟨.inr ⟨HF.out, rfl⟩, (Below.refl _ _).alloc (Nat.le_refl _) _⟩
      · have qz : ((z : Int) == 1) = false := by rw [beq_eq_false_iff_ne]; omega
        have hz2 : 1 < s.size := by omega
        have hzz : (1 : Int) < (z : Int) := by omega
        obtain ⟨b, hb⟩ : ∃ b, b = isF s[1] := ⟨_, rfl⟩
        have HB := Lib.hid hb
        have HZ1 := Lib.hid hz1
        clear hb hz1
        cases b with
        | false =>
          have HF := Lib.hid (show firstT (dat s) = none by
            rw [HD.out, H45.out]
            apply first_dash
            rw [snd_eq s hz2]
            exact cnt_nil HB.out.symm)
          go_enter Tryd.func16, Tryd.ntmps16
          go_wp2_with fail
          refine (letter_any c _ false HA.out).mono ?_
          rintro e w1 ⟨rfl, rfl⟩
          go_wp2_with fail
          refine (figure_any s[1] _ false HB.out).mono ?_
          rintro e w1 ⟨rfl, rfl⟩
          go_wp2_with fail
          exact bodyPost_ret (v := .tuple #[.agg #[.int .i64 0, .string ⟨#[]⟩, .int .i64 0], .int .i64 0]) (by simp [results, Tryd.results16, go_sem]) rfl ⟨.inr ⟨HF.out, rfl⟩, (Below.refl _ _).alloc (Nat.le_refl _) _⟩
        | true =>
          go_enter Tryd.func16, Tryd.ntmps16
          go_wp2_with fail
          refine (letter_any c _ false HA.out).mono ?_
          rintro e w1 ⟨rfl, rfl⟩
          go_wp2_with fail
          refine (figure_any s[1] _ true HB.out).mono ?_
          rintro e w1 ⟨rfl, rfl⟩
          go_wp2_with fail
          refine (number_any s _ (HE.out.keep HW1.out) hs h0 (.inr ⟨by rw [hc]; exact H45.out, hz2, HB.out.symm⟩)).mono ?_
          rintro e w2 ⟨hr, hb2⟩
          have HB2 := Lib.hid (bthen HW1.out hb2)
          obtain ⟨g0, g1, g2⟩ : w2.cell? ⟨w.heap.size, 0, none⟩ = some (.int .i64 0) ∧ w2.cell? ⟨w.heap.size, 1, none⟩ = some (.string ⟨#[]⟩) ∧ w2.cell? ⟨w.heap.size, 2, none⟩ = some (.int .i64 0) := ⟨cell_on hb2 (cell_made (by simp) rfl), cell_on hb2 (cell_made (by simp) rfl), cell_on hb2 (cell_made (by simp) rfl)⟩
          have gf : ∀ o, w2.frozen? ⟨w.heap.size, o, none⟩ = false := fun o => (hb2.frozen (p := ⟨w.heap.size, o, none⟩) (by simp)).trans (by simp)
          have hlt2 : w.heap.size < w2.heap.size := lt_of_cell g0
          clear hb2
          rcases hr with ⟨⟨t0, t1, t2⟩, n, HF, rfl⟩ | ⟨HF, rfl⟩
          · have HF := Lib.hid HF
            unfold tokV
            go_wp2_with fail
            obtain ⟨r0, r1, r2, rb⟩ := res3 ((.int .i64 t0)) ((.string t1)) ((.int .i64 t2)) (Nat.le_refl w.heap.size) g0 g1 g2
            have RB := Lib.hid rb
            clear rb g0 g1 g2 gf
            generalize ((w2.setCell _ _).setCell _ _).setCell _ _ = w9 at *
            exact bodyPost_ret (v := .tuple #[.agg #[(.int .i64 t0), (.string t1), (.int .i64 t2)], (.int .i64 (n : Int))]) (by simp [results, Tryd.results16, go_sem, r0, r1, r2]) rfl ⟨.inl ⟨_, _, HF.out, rfl⟩, HB2.out.trans RB.out⟩
          · have HF := Lib.hid HF
            unfold zeroTok
            go_wp2_with fail
            obtain ⟨r0, r1, r2, rb⟩ := res3 ((.int .i64 0)) ((.string ⟨#[]⟩)) ((.int .i64 0)) (Nat.le_refl w.heap.size) g0 g1 g2
            have RB := Lib.hid rb
            clear rb g0 g1 g2 gf
            generalize ((w2.setCell _ _).setCell _ _).setCell _ _ = w9 at *
            exact bodyPost_ret (v := .tuple #[.agg #[(.int .i64 0), (.string ⟨#[]⟩), (.int .i64 0)], (.int .i64 0)]) (by simp [results, Tryd.results16, go_sem, r0, r1, r2]) rfl ⟨.inr ⟨HF.out, rfl⟩, HB2.out.trans RB.out⟩
    · have q45 : ((c.toNat : Int) == 45) = false := c_ne (k := 45) (by omega) h45
      have H45 := Lib.hid h45
      clear h45
      obtain ⟨b, hb⟩ : ∃ b, b = isF c := ⟨_, rfl⟩
      have HB := Lib.hid hb
      clear hb
      cases b with
      | true =>
        go_enter Tryd.func16, Tryd.ntmps16
        go_wp2_with fail
        refine (letter_any c _ false HA.out).mono ?_
        rintro e w1 ⟨rfl, rfl⟩
        go_wp2_with fail
        refine (figure_any c _ true HB.out).mono ?_
        rintro e w1 ⟨rfl, rfl⟩
        go_wp2_with fail
        refine (number_any s _ (HE.out.keep HW1.out) hs h0 (.inl (by rw [hc]; exact HB.out.symm))).mono ?_
        rintro e w2 ⟨hr, hb2⟩
        have HB2 := Lib.hid (bthen HW1.out hb2)
        obtain ⟨g0, g1, g2⟩ : w2.cell? ⟨w.heap.size, 0, none⟩ = some (.int .i64 0) ∧ w2.cell? ⟨w.heap.size, 1, none⟩ = some (.string ⟨#[]⟩) ∧ w2.cell? ⟨w.heap.size, 2, none⟩ = some (.int .i64 0) := ⟨cell_on hb2 (cell_made (by simp) rfl), cell_on hb2 (cell_made (by simp) rfl), cell_on hb2 (cell_made (by simp) rfl)⟩
        have gf : ∀ o, w2.frozen? ⟨w.heap.size, o, none⟩ = false := fun o => (hb2.frozen (p := ⟨w.heap.size, o, none⟩) (by simp)).trans (by simp)
        have hlt2 : w.heap.size < w2.heap.size := lt_of_cell g0
        clear hb2
        rcases hr with ⟨⟨t0, t1, t2⟩, n, HF, rfl⟩ | ⟨HF, rfl⟩
        · have HF := Lib.hid HF
          unfold tokV
          go_wp2_with fail
          obtain ⟨r0, r1, r2, rb⟩ := res3 ((.int .i64 t0)) ((.string t1)) ((.int .i64 t2)) (Nat.le_refl w.heap.size) g0 g1 g2
          have RB := Lib.hid rb
          clear rb g0 g1 g2 gf
          generalize ((w2.setCell _ _).setCell _ _).setCell _ _ = w9 at *
          exact bodyPost_ret (v := .tuple #[.agg #[(.int .i64 t0), (.string t1), (.int .i64 t2)], (.int .i64 (n : Int))]) (by simp [results, Tryd.results16, go_sem, r0, r1, r2]) rfl ⟨.inl ⟨_, _, HF.out, rfl⟩, HB2.out.trans RB.out⟩
        · have HF := Lib.hid HF
          unfold zeroTok
          go_wp2_with fail
          obtain ⟨r0, r1, r2, rb⟩ := res3 ((.int .i64 0)) ((.string ⟨#[]⟩)) ((.int .i64 0)) (Nat.le_refl w.heap.size) g0 g1 g2
          have RB := Lib.hid rb
          clear rb g0 g1 g2 gf
          generalize ((w2.setCell _ _).setCell _ _).setCell _ _ = w9 at *
          exact bodyPost_ret (v := .tuple #[.agg #[(.int .i64 0), (.string ⟨#[]⟩), (.int .i64 0)], (.int .i64 0)]) (by simp [results, Tryd.results16, go_sem, r0, r1, r2]) rfl ⟨.inr ⟨HF.out, rfl⟩, HB2.out.trans RB.out⟩
      | false =>
        by_cases h34 : c = 34
        · have q34 : ((c.toNat : Int) == 34) = true := c_yes (k := 34) (by omega) h34
          have H34 := Lib.hid h34
          clear h34
          go_enter Tryd.func16, Tryd.ntmps16
          go_wp2_with fail
          refine (letter_any c _ false HA.out).mono ?_
          rintro e w1 ⟨rfl, rfl⟩
          go_wp2_with fail
          refine (figure_any c _ false HB.out).mono ?_
          rintro e w1 ⟨rfl, rfl⟩
          go_wp2_with fail
          refine (text_any s _ hs h0 (by rw [hc]; exact H34.out)).mono ?_
          rintro e w2 ⟨hr, hb2⟩
          have HB2 := Lib.hid (bthen HW1.out hb2)
          obtain ⟨g0, g1, g2⟩ : w2.cell? ⟨w.heap.size, 0, none⟩ = some (.int .i64 0) ∧ w2.cell? ⟨w.heap.size, 1, none⟩ = some (.string ⟨#[]⟩) ∧ w2.cell? ⟨w.heap.size, 2, none⟩ = some (.int .i64 0) := ⟨cell_on hb2 (cell_made (by simp) rfl), cell_on hb2 (cell_made (by simp) rfl), cell_on hb2 (cell_made (by simp) rfl)⟩
          have gf : ∀ o, w2.frozen? ⟨w.heap.size, o, none⟩ = false := fun o => (hb2.frozen (p := ⟨w.heap.size, o, none⟩) (by simp)).trans (by simp)
          have hlt2 : w.heap.size < w2.heap.size := lt_of_cell g0
          clear hb2
          rcases hr with ⟨⟨t0, t1, t2⟩, n, HF, rfl⟩ | ⟨HF, rfl⟩
          · have HF := Lib.hid HF
            unfold tokV
            go_wp2_with fail
            obtain ⟨r0, r1, r2, rb⟩ := res3 ((.int .i64 t0)) ((.string t1)) ((.int .i64 t2)) (Nat.le_refl w.heap.size) g0 g1 g2
            have RB := Lib.hid rb
            clear rb g0 g1 g2 gf
            generalize ((w2.setCell _ _).setCell _ _).setCell _ _ = w9 at *
            exact bodyPost_ret (v := .tuple #[.agg #[(.int .i64 t0), (.string t1), (.int .i64 t2)], (.int .i64 (n : Int))]) (by simp [results, Tryd.results16, go_sem, r0, r1, r2]) rfl ⟨.inl ⟨_, _, HF.out, rfl⟩, HB2.out.trans RB.out⟩
          · have HF := Lib.hid HF
            unfold zeroTok
            go_wp2_with fail
            obtain ⟨r0, r1, r2, rb⟩ := res3 ((.int .i64 0)) ((.string ⟨#[]⟩)) ((.int .i64 0)) (Nat.le_refl w.heap.size) g0 g1 g2
            have RB := Lib.hid rb
            clear rb g0 g1 g2 gf
            generalize ((w2.setCell _ _).setCell _ _).setCell _ _ = w9 at *
            exact bodyPost_ret (v := .tuple #[.agg #[(.int .i64 0), (.string ⟨#[]⟩), (.int .i64 0)], (.int .i64 0)]) (by simp [results, Tryd.results16, go_sem, r0, r1, r2]) rfl ⟨.inr ⟨HF.out, rfl⟩, HB2.out.trans RB.out⟩
        · have q34 : ((c.toNat : Int) == 34) = false := c_ne (k := 34) (by omega) h34
          have HFS := Lib.hid (show firstT (dat s) = if sgn c = true then some ((3, bsOf [c], 0), 1) else none by rw [HD.out]; exact first_sign HL.out H45.out HB.out.symm h34)
          have sl := slice_to' s 1 (by omega)
          have HX := Lib.hid (show s.extract 0 1 = bsOf [c] by rw [ext_take, HD.out]; rfl)
          clear h34
          rw [HX.out] at sl
          have sl : ∀ W, Sem.run Tryd.prog (Instr.slice 9 (.string s) none (some (.int .i64 1)) none) W = .ok (.string (bsOf [c])) W := sl
          by_cases h44 : c = 44
          · have q44 : ((c.toNat : Int) == 44) = true := c_yes (k := 44) (by omega) h44
            have HF := Lib.hid (show firstT (dat s) = some ((3, bsOf [c], 0), 1) by rw [HFS.out, h44]; rfl)
            clear h44
            go_enter Tryd.func16, Tryd.ntmps16
            go_wp2_with fail
            refine (letter_any c _ false HA.out).mono ?_
            rintro e w1 ⟨rfl, rfl⟩
            go_wp2_with fail
            refine (figure_any c _ false HB.out).mono ?_
            rintro e w1 ⟨rfl, rfl⟩
            go_wp2_with fail
            exact bodyPost_ret (v := .tuple #[.agg #[.int .i64 3, .string (bsOf [c]), .int .i64 0], .int .i64 1]) (by simp [results, Tryd.results16, go_sem]) rfl ⟨.inl ⟨_, _, HF.out, rfl⟩, (Below.refl _ _).alloc (Nat.le_refl _) _⟩
          have q44 : ((c.toNat : Int) == 44) = false := c_ne (k := 44) (by omega) h44
          have H44 := Lib.hid (show (c == 44) = false from beq_eq_false_iff_ne.2 h44)
          clear h44
          by_cases h40 : c = 40
          · have q40 : ((c.toNat : Int) == 40) = true := c_yes (k := 40) (by omega) h40
            have HF := Lib.hid (show firstT (dat s) = some ((3, bsOf [c], 0), 1) by rw [HFS.out, h40]; rfl)
            clear h40
            go_enter Tryd.func16, Tryd.ntmps16
            go_wp2_with fail
            refine (letter_any c _ false HA.out).mono ?_
            rintro e w1 ⟨rfl, rfl⟩
            go_wp2_with fail
            refine (figure_any c _ false HB.out).mono ?_
            rintro e w1 ⟨rfl, rfl⟩
            go_wp2_with fail
            exact bodyPost_ret (v := .tuple #[.agg #[.int .i64 3, .string (bsOf [c]), .int .i64 0], .int .i64 1]) (by simp [results, Tryd.results16, go_sem]) rfl ⟨.inl ⟨_, _, HF.out, rfl⟩, (Below.refl _ _).alloc (Nat.le_refl _) _⟩
          have q40 : ((c.toNat : Int) == 40) = false := c_ne (k := 40) (by omega) h40
          have H40 := Lib.hid (show (c == 40) = false from beq_eq_false_iff_ne.2 h40)
          clear h40
          by_cases h41 : c = 41
          · have q41 : ((c.toNat : Int) == 41) = true := c_yes (k := 41) (by omega) h41
            have HF := Lib.hid (show firstT (dat s) = some ((3, bsOf [c], 0), 1) by rw [HFS.out, h41]; rfl)
            clear h41
            go_enter Tryd.func16, Tryd.ntmps16
            go_wp2_with fail
            refine (letter_any c _ false HA.out).mono ?_
            rintro e w1 ⟨rfl, rfl⟩
            go_wp2_with fail
            refine (figure_any c _ false HB.out).mono ?_
            rintro e w1 ⟨rfl, rfl⟩
            go_wp2_with fail
            exact bodyPost_ret (v := .tuple #[.agg #[.int .i64 3, .string (bsOf [c]), .int .i64 0], .int .i64 1]) (by simp [results, Tryd.results16, go_sem]) rfl ⟨.inl ⟨_, _, HF.out, rfl⟩, (Below.refl _ _).alloc (Nat.le_refl _) _⟩
          have q41 : ((c.toNat : Int) == 41) = false := c_ne (k := 41) (by omega) h41
          have H41 := Lib.hid (show (c == 41) = false from beq_eq_false_iff_ne.2 h41)
          clear h41
          by_cases h61 : c = 61
          · have q61 : ((c.toNat : Int) == 61) = true := c_yes (k := 61) (by omega) h61
            have HF := Lib.hid (show firstT (dat s) = some ((3, bsOf [c], 0), 1) by rw [HFS.out, h61]; rfl)
            clear h61
            go_enter Tryd.func16, Tryd.ntmps16
            go_wp2_with fail
            refine (letter_any c _ false HA.out).mono ?_
            rintro e w1 ⟨rfl, rfl⟩
            go_wp2_with fail
            refine (figure_any c _ false HB.out).mono ?_
            rintro e w1 ⟨rfl, rfl⟩
            go_wp2_with fail
            exact bodyPost_ret (v := .tuple #[.agg #[.int .i64 3, .string (bsOf [c]), .int .i64 0], .int .i64 1]) (by simp [results, Tryd.results16, go_sem]) rfl ⟨.inl ⟨_, _, HF.out, rfl⟩, (Below.refl _ _).alloc (Nat.le_refl _) _⟩
          have q61 : ((c.toNat : Int) == 61) = false := c_ne (k := 61) (by omega) h61
          have H61 := Lib.hid (show (c == 61) = false from beq_eq_false_iff_ne.2 h61)
          clear h61
          by_cases h60 : c = 60
          · have q60 : ((c.toNat : Int) == 60) = true := c_yes (k := 60) (by omega) h60
            have HF := Lib.hid (show firstT (dat s) = some ((3, bsOf [c], 0), 1) by rw [HFS.out, h60]; rfl)
            clear h60
            go_enter Tryd.func16, Tryd.ntmps16
            go_wp2_with fail
            refine (letter_any c _ false HA.out).mono ?_
            rintro e w1 ⟨rfl, rfl⟩
            go_wp2_with fail
            refine (figure_any c _ false HB.out).mono ?_
            rintro e w1 ⟨rfl, rfl⟩
            go_wp2_with fail
            exact bodyPost_ret (v := .tuple #[.agg #[.int .i64 3, .string (bsOf [c]), .int .i64 0], .int .i64 1]) (by simp [results, Tryd.results16, go_sem]) rfl ⟨.inl ⟨_, _, HF.out, rfl⟩, (Below.refl _ _).alloc (Nat.le_refl _) _⟩
          have q60 : ((c.toNat : Int) == 60) = false := c_ne (k := 60) (by omega) h60
          have H60 := Lib.hid (show (c == 60) = false from beq_eq_false_iff_ne.2 h60)
          clear h60
          by_cases h62 : c = 62
          · have q62 : ((c.toNat : Int) == 62) = true := c_yes (k := 62) (by omega) h62
            have HF := Lib.hid (show firstT (dat s) = some ((3, bsOf [c], 0), 1) by rw [HFS.out, h62]; rfl)
            clear h62
            go_enter Tryd.func16, Tryd.ntmps16
            go_wp2_with fail
            refine (letter_any c _ false HA.out).mono ?_
            rintro e w1 ⟨rfl, rfl⟩
            go_wp2_with fail
            refine (figure_any c _ false HB.out).mono ?_
            rintro e w1 ⟨rfl, rfl⟩
            go_wp2_with fail
            exact bodyPost_ret (v := .tuple #[.agg #[.int .i64 3, .string (bsOf [c]), .int .i64 0], .int .i64 1]) (by simp [results, Tryd.results16, go_sem]) rfl ⟨.inl ⟨_, _, HF.out, rfl⟩, (Below.refl _ _).alloc (Nat.le_refl _) _⟩
          have q62 : ((c.toNat : Int) == 62) = false := c_ne (k := 62) (by omega) h62
          have H62 := Lib.hid (show (c == 62) = false from beq_eq_false_iff_ne.2 h62)
          clear h62
          have HF := Lib.hid (show firstT (dat s) = none by
            rw [HFS.out, if_neg]
            unfold sgn
            rw [H44.out, H40.out, H41.out, H61.out, H60.out, H62.out]
            decide)
          go_enter Tryd.func16, Tryd.ntmps16
          go_wp2_with fail
          refine (letter_any c _ false HA.out).mono ?_
          rintro e w1 ⟨rfl, rfl⟩
          go_wp2_with fail
          refine (figure_any c _ false HB.out).mono ?_
          rintro e w1 ⟨rfl, rfl⟩
          go_wp2_with fail
          exact bodyPost_ret (v := .tuple #[.agg #[.int .i64 0, .string ⟨#[]⟩, .int .i64 0], .int .i64 0]) (by simp [results, Tryd.results16, go_sem]) rfl ⟨.inr ⟨HF.out, rfl⟩, (Below.refl _ _).alloc (Nat.le_refl _) _⟩
end Go.Proofs.YtcpbjcemlkohkaaDoor
