/- Words, numbers and texts that a text begins with. -/
import Derived.Test.YtcpbjcemlkohkaaDoorQ
namespace Go.Proofs.YtcpbjcemlkohkaaDoor
open Go.RowKit
set_option linter.unusedSimpArgs false
set_option linter.unusedVariables false
def tokV (t : Tok) : Value := .agg #[.int .i64 t.1, .string t.2.1, .int .i64 t.2.2]
def zeroTok : Value := .agg #[.int .i64 0, .string ⟨#[]⟩, .int .i64 0]
/-- What a call answers that may find a token. -/
def FoundP (w : World) (o : Option (Tok × Nat)) (e : Ending) (w' : World) : Prop :=
  ((∃ t n, o = some (t, n) ∧ e = .returned (.tuple #[tokV t, .int .i64 (n : Int)])) ∨ (o = none ∧ e = .returned (.tuple #[zeroTok, .int .i64 0]))) ∧ Below w.heap.size w w'
theorem slice_to' (s : ByteArray) (p : Nat) (h : p ≤ s.size) (W : World) : Sem.run Tryd.prog (Instr.slice 9 (.string s) none (some (.int .i64 (p : Int))) none) W = .ok (.string (s.extract 0 p)) W := by
  have := run_slice_string_h (P := Tryd.prog) (w := W) (t := 9) (s := s) Tryd.underlying9 .i64 (p : Int) (by omega) (by omega)
  simpa using this
theorem ext_take (s : ByteArray) (p : Nat) : s.extract 0 p = bsOf ((dat s).take p) := by
  apply dat_inj
  rw [dat_bs]; simp [dat, ByteArray.data_extract]
theorem ext_mid (s : ByteArray) (a p : Nat) : s.extract a p = bsOf (((dat s).take p).drop a) := by
  apply dat_inj
  rw [dat_bs]; simp [dat, ByteArray.data_extract, List.drop_take]
theorem dat_cons (s : ByteArray) (h : 0 < s.size) : dat s = s[0] :: (dat s).drop 1 := by
  have h0 : 0 < (dat s).length := h
  have h : (dat s).drop 0 = (dat s)[0] :: (dat s).drop 1 := List.drop_eq_getElem_cons (l := dat s) (i := 0) h0
  exact h
set_option maxRecDepth 100000 in
set_option maxHeartbeats 8000000 in
theorem word_any (s : ByteArray) (w : World) (hs : s.size ≤ 1000000) (h0 : 0 < s.size) (h1 : isL s[0] = true) : Calls Tryd.prog 28 #[.string s] w (FoundP w (firstT (dat s))) := by
  obtain ⟨n, hn⟩ : ∃ n, n = 1 + cnt isW ((dat s).drop 1) := ⟨_, rfl⟩
  have hnz : n ≤ s.size := by have := cnt_le isW ((dat s).drop 1); rw [List.length_drop, dat_len] at this; omega
  have HF := Lib.hid (show firstT (dat s) = some ((0, bsOf ((dat s).take n), 0), n) by
    rw [dat_cons s h0]; unfold firstT; simp only []; rw [if_pos h1, hn, ← dat_cons s h0])
  have HN := Lib.hid hn
  have sl := slice_to' s n hnz
  have HX := Lib.hid (ext_take s n)
  clear hn h1
  go_enter Tryd.func28, Tryd.ntmps28
  go_wp2_with fail
  refine (endw_any s _ hs h0 n HN.out).mono ?_
  rintro e w1 ⟨rfl, rfl⟩
  go_wp2_with fail
  exact bodyPost_ret (v := .tuple #[.agg #[.int .i64 0, .string (s.extract 0 n), .int .i64 0], .int .i64 (n : Int)]) (by simp [results, Tryd.results28, go_sem]) rfl ⟨.inl ⟨_, _, HF.out, by rw [HX.out]; rfl⟩, (Below.refl _ _).alloc (Nat.le_refl _) _⟩
theorem cell_made {w : World} {t : TypeId} {cs : Array Value} {b o : Nat} {v : Value} (hb : b = w.heap.size) (hv : cs[o]? = some v) : (w.alloc (.cells cs t)).cell? ⟨b, o, none⟩ = some v := by
  subst hb; simp [hv]
theorem res3 {w : World} {B g : Nat} {u0 u1 u2 : Value} (x y z : Value) (hB : B ≤ g) (g0 : w.cell? ⟨g, 0, none⟩ = some u0) (g1 : w.cell? ⟨g, 1, none⟩ = some u1) (g2 : w.cell? ⟨g, 2, none⟩ = some u2) :
    let W := ((w.setCell ⟨g, 0, none⟩ x).setCell ⟨g, 1, none⟩ y).setCell ⟨g, 2, none⟩ z
    W.cell? ⟨g, 0, none⟩ = some x ∧ W.cell? ⟨g, 1, none⟩ = some y ∧ W.cell? ⟨g, 2, none⟩ = some z ∧ Below B w W := by
  intro W
  have ne : ∀ a b : Nat, a ≠ b → (⟨g, a, none⟩ : Addr) ≠ ⟨g, b, none⟩ := fun a b h e => h (congrArg Addr.off e)
  refine ⟨?_, ?_, ?_, (((Below.refl B w).setCell (p := ⟨g, 0, none⟩) hB x).setCell (p := ⟨g, 1, none⟩) hB y).setCell (p := ⟨g, 2, none⟩) hB z⟩
  · show World.cell? (World.setCell _ _ _) _ = _
    rw [World.cell?_setCell_other _ _ _ _ (fun e => by simpa using congrArg Addr.off e), World.cell?_setCell_other _ _ _ _ (fun e => by simpa using congrArg Addr.off e)]
    exact World.cell?_setCell_same' w _ _ (by rw [g0]; rfl)
  · show World.cell? (World.setCell _ _ _) _ = _
    rw [World.cell?_setCell_other _ _ _ _ (fun e => by simpa using congrArg Addr.off e)]
    exact World.cell?_setCell_same' _ _ _ (by rw [World.cell?_setCell_other _ _ _ _ (fun e => by simpa using congrArg Addr.off e), g1]; rfl)
  · exact World.cell?_setCell_same' _ _ _ (by rw [World.cell?_setCell_other _ _ _ _ (fun e => by simpa using congrArg Addr.off e), World.cell?_setCell_other _ _ _ _ (fun e => by simpa using congrArg Addr.off e), g2]; rfl)
theorem valP_iff (s : ByteArray) : valP s ↔ valB (dat s) = true := by
  unfold valP valueP valB
  rw [Bool.and_eq_true, decide_eq_true_iff, dat_len, List.all_eq_true]
  refine and_congr_right fun _ => ⟨fun h c hc => ?_, fun h i hi => ?_⟩
  · obtain ⟨i, hi, rfl⟩ := List.mem_iff_getElem.1 hc
    rw [Bool.not_eq_true']
    exact h i hi
  · have := h (s[i]) (List.mem_iff_getElem.2 ⟨i, hi, rfl⟩)
    rwa [Bool.not_eq_true'] at this
theorem size_bs (l : List UInt8) : (bsOf l).size = l.length := rfl
theorem get_bs (l : List UInt8) (h : 0 < (bsOf l).size) : l.head? = some ((bsOf l)[0]'h) := by
  cases l with
  | nil => exact absurd h (by decide)
  | cons c r => rfl
theorem figs_ok {l : List UInt8} {c : UInt8} {r : List UInt8} (he : l = c :: r) (h : isF c = true ∨ (c = 45 ∧ r ≠ [])) (hr : ∀ x ∈ r, isF x = true) : (∀ x ∈ figs l, isF x = true) ∧ figs l ≠ [] := by
  subst he
  by_cases hc : c = 45
  · subst hc
    have e : figs ((45 : UInt8) :: r) = r := rfl
    rw [e]
    refine ⟨hr, ?_⟩
    rcases h with h | h
    · exact absurd h (by decide)
    · exact h.2
  · have e : figs (c :: r) = c :: r := by unfold figs; rw [if_neg (by simpa using hc)]
    rw [e]
    refine ⟨fun x hx => ?_, by simp⟩
    rcases List.mem_cons.1 hx with rfl | hx
    · rcases h with h | h
      · exact h
      · exact absurd h.1 hc
    · exact hr x hx
theorem firstT_num {s : ByteArray} {n : Nat} (h0 : 0 < s.size) (hn : n = 1 + cnt isF ((dat s).drop 1)) (h : s[0] = 45 ∨ isF s[0] = true) : firstT (dat s) = (numR ((dat s).take n)).map (fun t => (t, n)) := by
  rw [dat_cons s h0]
  unfold firstT
  simp only []
  have hl : ¬ isL s[0] = true := by
    rcases h with h | h
    · rw [h]; decide
    · have h1 := (isF_iff _).1 h
      intro h2
      have h3 := (isL_iff _).1 h2
      omega
  rw [if_neg hl, if_pos h, hn, ← dat_cons s h0]
set_option maxRecDepth 100000 in
set_option maxHeartbeats 8000000 in
theorem number_any (s : ByteArray) (w : World) (hE : Er w) (hs : s.size ≤ 1000000) (h0 : 0 < s.size) (h1 : isF s[0] = true ∨ (s[0] = 45 ∧ ∃ h : 1 < s.size, isF s[1] = true)) : Calls Tryd.prog 30 #[.string s] w (FoundP w (firstT (dat s))) := by
  obtain ⟨n, hn⟩ : ∃ n, n = 1 + cnt isF ((dat s).drop 1) := ⟨_, rfl⟩
  have hnz : n ≤ s.size := by have := cnt_le isF ((dat s).drop 1); rw [List.length_drop, dat_len] at this; omega
  have hn1 : 1 ≤ n := by omega
  obtain ⟨l, hl⟩ : ∃ l, l = (dat s).take n := ⟨_, rfl⟩
  have hFN := firstT_num h0 hn (by rcases h1 with h | h; exact .inr h; exact .inl h.1)
  rw [← hl] at hFN
  have hlc : l = s[0] :: ((dat s).drop 1).take (n - 1) := by
    rw [hl, dat_cons s h0]
    obtain ⟨m, rfl⟩ : ∃ m, n = m + 1 := ⟨n - 1, by omega⟩
    simp
  have hok := figs_ok hlc (by
    rcases h1 with h | ⟨h, h2, h3⟩
    · exact .inl h
    · refine .inr ⟨h, fun e => ?_⟩
      have hlt : 0 < ((dat s).drop 1).length := by rw [List.length_drop, dat_len]; omega
      have := (cnt_step isF ((dat s).drop 1) (k := 0) hlt (Nat.zero_le _)).2 (by
        rw [List.getElem_drop]
        exact h3)
      have e2 := congrArg List.length e
      rw [List.length_take, List.length_drop, dat_len] at e2
      simp at e2
      omega) (fun x hx => mem_cnt isF _ (by rw [show cnt isF ((dat s).drop 1) = n - 1 by omega]; exact hx))
  have HN := Lib.hid hn
  have HFN := Lib.hid hFN
  have HOK1 := Lib.hid hok.1
  have HOK2 := Lib.hid hok.2
  have HX := Lib.hid (show s.extract 0 n = bsOf l by rw [hl]; exact ext_take s n)
  have sl : ∀ W, Sem.run Tryd.prog (Instr.slice 9 (.string s) none (some (.int .i64 (n : Int))) none) W = .ok (.string (bsOf l)) W := fun W => by rw [← HX.out]; exact slice_to' s n hnz W
  have hll : l.length ≤ 1000000 := by rw [hl, List.length_take]; omega
  obtain ⟨b, hb⟩ : ∃ b, b = bsOf l := ⟨_, rfl⟩
  have HB := Lib.hid hb
  have HBD := Lib.hid (show dat b = l by rw [hb]; rfl)
  have HBS := Lib.hid (show b.size ≤ 1000000 by rw [hb]; exact hll)
  rw [← hb] at sl
  obtain ⟨q, hq⟩ : ∃ q, q = bsOf (figs l) := ⟨_, rfl⟩
  have HQ := Lib.hid hq
  obtain ⟨z, hz⟩ : ∃ z, q.size = z := ⟨_, rfl⟩
  have HZ := Lib.hid (show z = (figs l).length by rw [← hz, hq]; rfl)
  have hz1 : 0 < z := by have := HZ.out; have := List.length_pos_iff.2 HOK2.out; omega
  have hz9 : z ≤ 1000000 := by
    have h := HZ.out
    have h2 : (figs l).length ≤ l.length := by unfold figs; split; rw [List.length_drop]; omega; omega
    omega
  have hq0 : 0 < q.size := by omega
  have HH := Lib.hid (show (figs l).head? = some q[0] by subst hq; exact get_bs _ hq0)
  obtain ⟨c, hc⟩ : ∃ c, c = q[0] := ⟨_, rfl⟩
  have HC := Lib.hid hc
  have h48 := Lib.hid (c_eq c 48 (by omega))
  obtain ⟨V, hV⟩ : ∃ V, V = numV (figs l) := ⟨_, rfl⟩
  have HV := Lib.hid hV
  have hER := Lib.hid hE
  have HW1 := Lib.hid (show Below w.heap.size w (w.alloc (.cells #[.int .i64 0, .string ⟨#[]⟩, .int .i64 0] 31)) from bpush (Below.refl _ _) _)
  clear hn hFN hlc hok hl hb hq hc hV hE h1
  go_enter Tryd.func30, Tryd.ntmps30
  go_wp2_with fail
  refine (endf_any s _ hs h0 n HN.out).mono ?_
  rintro e w1 ⟨rfl, rfl⟩
  go_wp2_with fail
  refine (trimprefix_any b _).mono ?_
  rintro e w1 ⟨rfl, rfl⟩
  rw [HBD.out, ← HQ.out]
  go_wp2_with fail
  refine (atoi_any b _ HBS.out (hER.out.keep HW1.out) (by rw [HBD.out]; exact HOK1.out) (by rw [HBD.out]; exact HOK2.out)).mono ?_
  rintro e w2 ⟨⟨v, er, rfl, hr⟩, hb2⟩
  rw [HBD.out, ← HV.out] at hr
  have HB2 := Lib.hid (bthen HW1.out hb2)
  obtain ⟨g0, g1, g2⟩ : w2.cell? ⟨w.heap.size, 0, none⟩ = some (.int .i64 0) ∧ w2.cell? ⟨w.heap.size, 1, none⟩ = some (.string ⟨#[]⟩) ∧ w2.cell? ⟨w.heap.size, 2, none⟩ = some (.int .i64 0) := ⟨cell_on hb2 (cell_made (by simp) rfl), cell_on hb2 (cell_made (by simp) rfl), cell_on hb2 (cell_made (by simp) rfl)⟩
  have gf : ∀ o, w2.frozen? ⟨w.heap.size, o, none⟩ = false := fun o => (hb2.frozen (p := ⟨w.heap.size, o, none⟩) (by simp)).trans (by simp)
  have hlt2 : w.heap.size < w2.heap.size := lt_of_cell g0
  clear hb2
  rcases hr with ⟨rfl, hv, hV⟩ | ⟨⟨te, pe, rfl⟩, hV⟩
  · by_cases hbig : 4611686018427387904 < V
    · have HF := Lib.hid (show firstT (dat s) = none by
        rw [HFN.out]; unfold numR; rw [if_pos (.inr (.inl (by rw [← HV.out]; exact hbig)))]; rfl)
      by_cases hneg : v < 0
      · have k1 : v < -4611686018427387904 := by split at hv <;> omega
        clear hv hbig hV
        go_wp2_with fail
        obtain ⟨r0, r1, r2, rb⟩ := res3 ((.int .i64 0)) ((.string ⟨#[]⟩)) ((.int .i64 0)) (Nat.le_refl w.heap.size) g0 g1 g2
        have RB := Lib.hid rb
        clear rb g0 g1 g2 gf
        generalize ((w2.setCell _ _).setCell _ _).setCell _ _ = w9 at *
        exact bodyPost_ret (v := .tuple #[.agg #[(.int .i64 0), (.string ⟨#[]⟩), (.int .i64 0)], (.int .i64 0)]) (by simp [results, Tryd.results30, go_sem, r0, r1, r2]) rfl ⟨.inr ⟨HF.out, rfl⟩, HB2.out.trans RB.out⟩
      · have k1 : ¬ v < -4611686018427387904 := by omega
        have k2 : 4611686018427387904 < v := by split at hv <;> omega
        clear hv hbig hV
        go_wp2_with fail
        obtain ⟨r0, r1, r2, rb⟩ := res3 ((.int .i64 0)) ((.string ⟨#[]⟩)) ((.int .i64 0)) (Nat.le_refl w.heap.size) g0 g1 g2
        have RB := Lib.hid rb
        clear rb g0 g1 g2 gf
        generalize ((w2.setCell _ _).setCell _ _).setCell _ _ = w9 at *
        exact bodyPost_ret (v := .tuple #[.agg #[(.int .i64 0), (.string ⟨#[]⟩), (.int .i64 0)], (.int .i64 0)]) (by simp [results, Tryd.results30, go_sem, r0, r1, r2]) rfl ⟨.inr ⟨HF.out, rfl⟩, HB2.out.trans RB.out⟩
    · have k1 : ¬ v < -4611686018427387904 := by split at hv <;> omega
      have k2 : ¬ 4611686018427387904 < v := by split at hv <;> omega
      have HVV := Lib.hid hv
      have HNB := Lib.hid hbig
      clear hv hbig hV
      by_cases hz2 : 1 < z
      · have k3 : (1 : Int) < (z : Int) := by omega
        by_cases h4 : c = 48
        · have HF := Lib.hid (show firstT (dat s) = none by
            rw [HFN.out]; unfold numR; rw [if_pos (.inr (.inr ⟨by rw [← HZ.out]; exact hz2, by rw [HH.out, ← HC.out, h4]⟩))]; rfl)
          have k4 : ((q[0].toNat : Int) == 48) = true := by rw [← HC.out, h4]; rfl
          clear h4 hz2
          go_wp2_with fail
          obtain ⟨r0, r1, r2, rb⟩ := res3 ((.int .i64 0)) ((.string ⟨#[]⟩)) ((.int .i64 0)) (Nat.le_refl w.heap.size) g0 g1 g2
          have RB := Lib.hid rb
          clear rb g0 g1 g2 gf
          generalize ((w2.setCell _ _).setCell _ _).setCell _ _ = w9 at *
          exact bodyPost_ret (v := .tuple #[.agg #[(.int .i64 0), (.string ⟨#[]⟩), (.int .i64 0)], (.int .i64 0)]) (by simp [results, Tryd.results30, go_sem, r0, r1, r2]) rfl ⟨.inr ⟨HF.out, rfl⟩, HB2.out.trans RB.out⟩
        · have k4 : ((q[0].toNat : Int) == 48) = false := by
            have h := h48.out
            rw [← HC.out]
            show ((c.toNat : Int) == ((48 : Nat) : Int)) = false
            rw [← h]; exact beq_eq_false_iff_ne.2 h4
          have HF := Lib.hid (show firstT (dat s) = some ((1, bsOf l, v), n) by
            rw [HFN.out]; unfold numR; rw [if_neg (by
              rintro (h | h | ⟨_, h⟩)
              · exact HOK2.out h
              · rw [← HV.out] at h; exact HNB.out h
              · rw [HH.out, ← HC.out] at h; exact h4 (Option.some.inj h)), ← HV.out, HVV.out]; rfl)
          clear h4 hz2
          go_wp2_with fail
          obtain ⟨r0, r1, r2, rb⟩ := res3 ((.int .i64 1)) ((.string b)) ((.int .i64 v)) (Nat.le_refl w.heap.size) g0 g1 g2
          have RB := Lib.hid rb
          clear rb g0 g1 g2 gf
          generalize ((w2.setCell _ _).setCell _ _).setCell _ _ = w9 at *
          exact bodyPost_ret (v := .tuple #[.agg #[(.int .i64 1), (.string b), (.int .i64 v)], (.int .i64 (n : Int))]) (by simp [results, Tryd.results30, go_sem, r0, r1, r2]) rfl ⟨.inl ⟨_, _, HF.out, by rw [HB.out]; rfl⟩, HB2.out.trans RB.out⟩
      · have k3 : ¬ (1 : Int) < (z : Int) := by omega
        have HF := Lib.hid (show firstT (dat s) = some ((1, bsOf l, v), n) by
            rw [HFN.out]; unfold numR; rw [if_neg (by
              rintro (h | h | ⟨h, _⟩)
              · exact HOK2.out h
              · rw [← HV.out] at h; exact HNB.out h
              · rw [← HZ.out] at h; exact hz2 h), ← HV.out, HVV.out]; rfl)
        clear hz2
        go_wp2_with fail
        obtain ⟨r0, r1, r2, rb⟩ := res3 ((.int .i64 1)) ((.string b)) ((.int .i64 v)) (Nat.le_refl w.heap.size) g0 g1 g2
        have RB := Lib.hid rb
        clear rb g0 g1 g2 gf
        generalize ((w2.setCell _ _).setCell _ _).setCell _ _ = w9 at *
        exact bodyPost_ret (v := .tuple #[.agg #[(.int .i64 1), (.string b), (.int .i64 v)], (.int .i64 (n : Int))]) (by simp [results, Tryd.results30, go_sem, r0, r1, r2]) rfl ⟨.inl ⟨_, _, HF.out, by rw [HB.out]; rfl⟩, HB2.out.trans RB.out⟩
  · have HF := Lib.hid (show firstT (dat s) = none by
      rw [HFN.out]; unfold numR; rw [if_pos (.inr (.inl (by rw [← HV.out]; exact hV)))]; rfl)
    clear hV
    go_wp2_with fail
    obtain ⟨r0, r1, r2, rb⟩ := res3 ((.int .i64 0)) ((.string ⟨#[]⟩)) ((.int .i64 0)) (Nat.le_refl w.heap.size) g0 g1 g2
    have RB := Lib.hid rb
    clear rb g0 g1 g2 gf
    generalize ((w2.setCell _ _).setCell _ _).setCell _ _ = w9 at *
    exact bodyPost_ret (v := .tuple #[.agg #[(.int .i64 0), (.string ⟨#[]⟩), (.int .i64 0)], (.int .i64 0)]) (by simp [results, Tryd.results30, go_sem, r0, r1, r2]) rfl ⟨.inr ⟨HF.out, rfl⟩, HB2.out.trans RB.out⟩
end Go.Proofs.YtcpbjcemlkohkaaDoor
