/- LexerText's walk; an argument that is a slice of tokens. -/
import Derived.Test.YtcpbjcemlkohkaaDoorFF
import Derived.Deep.Slices
import Derived.Deep.Fields
import Derived.ChangeSame
namespace Go.Proofs.YtcpbjcemlkohkaaDoor
open Go.RowKit Go.ChangeShapes Go.WideShapes Go.Deep
set_option linter.unusedSimpArgs false
set_option linter.unusedVariables false
theorem bool_of (p : Prop) : ∃ q : Bool, q = true ↔ p := by
  by_cases h : p
  · exact ⟨true, by simp [h]⟩
  · exact ⟨false, by simp [h]⟩
set_option maxRecDepth 100000 in
set_option maxHeartbeats 16000000 in
theorem text_walk (A : Option Addr) (n c : Nat) (L : List Tok) (w : World) (hE : Er w) (hA : Row w A (cellsT L)) (hn : n = L.length) (hn2 : n ≤ 9223372036854775807) (hL : ∀ t ∈ L, t.2.1.size ≤ 9223372036854775807) :
    Calls Tryd.prog 4 #[.slice A n c] w fun e w' => e = .returned (.bool true) ∧ Below w.heap.size w w' := by
  obtain ⟨i0, hi0, hz0, hz1, hz2⟩ := info_parts info31
  have HE := Lib.hid hE
  have HA := Lib.hid hA
  have HN := Lib.hid hn
  have HL := Lib.hid hL
  clear hE hA hn hL
  go_enter Tryd.func4, Tryd.ntmps4
  go_wp2_with fail
  go_loopw [3, 4, 5] (fun v i q wr => ∃ (k : Nat) (R : List Tok), i = .int .i64 (k : Int) ∧ k ≤ n ∧ k ≤ 100 ∧ R.length ≤ k ∧ Hid (wr.ownsRow w.heap.size 31 3 v R.length (cellsT R)) ∧ Hid (smallT R) ∧ Hid (Below w.heap.size w wr)) (fun _ i _ _ => n - (intOf i).toNat)
  case atStart => exact ⟨0, [], rfl, by omega, by omega, by simp, Lib.hid (World.ownsRow_nil _ _ _ _), Lib.hid (fun t ht => by cases ht), Lib.hid (Below.refl _ _)⟩
  case round =>
    obtain ⟨k, R, rfl, hk, hk100, hRk, HO, HSM, HBW⟩ := hrel
    obtain ⟨rl, hrl⟩ : ∃ rl, rl = R.length := ⟨_, rfl⟩
    rw [← hrl] at hRk HO
    have HRL := Lib.hid hrl
    have hszr : w.heap.size ≤ wr.heap.size := HBW.out.size
    clear hrl
    by_cases hgo : k < n ∧ k < 100
    · obtain ⟨hlt, hlt2⟩ := hgo
      have hki : (k : Int) < (n : Int) := by omega
      have hki2 : (k : Int) < 100 := by omega
      have hk0 : (0 : Int) ≤ (k : Int) := by omega
      have hkL : k < L.length := by have := HN.out; omega
      obtain ⟨b1, o1, rfl, x0, x1, x2⟩ := (HA.out.keep (Nat.le_refl _) HBW.out).at3 hkL
      obtain ⟨⟨t0, t1, t2⟩, ht⟩ : ∃ t, t = L[k] := ⟨_, rfl⟩
      rw [← ht] at x0 x1 x2
      obtain ⟨z1, hzt⟩ : ∃ z, t1.size = z := ⟨_, rfl⟩
      have hzm : z1 ≤ 9223372036854775807 := by have h := HL.out L[k] (List.getElem_mem _); rw [← ht] at h; rw [← hzt]; exact h
      clear ht hlt hlt2
      by_cases hbig : 60 < z1
      · have kb : (60 : Int) < (z1 : Int) := by omega
        clear hbig
        go_wp2_with fail
        go_roundw
        case rel => exact ⟨k + 1, R, by go_num, by omega, by omega, by rw [← HRL.out]; omega, by rw [← HRL.out]; exact HO, HSM, HBW⟩
        case measure => simp [intOf]; omega
      · have kb : ¬ (60 : Int) < (z1 : Int) := by omega
        have hz60 : z1 ≤ 60 := by omega
        obtain ⟨r, hr⟩ : ∃ r : Bool, r = true ↔ rightT (t0, t1, t2) := bool_of (rightT (t0, t1, t2))
        have HR := Lib.hid hr
        have HTS := Lib.hid (show t1.size ≤ 1000 by omega)
        clear hr hbig
        go_wp2_with fail
        refine (refright_any t0 t2 t1 _ HTS.out r HR.out).mono ?_
        rintro e w2 ⟨rfl, hb2⟩
        have HB2 := Lib.hid (bthen HBW.out hb2)
        have HO1 := Lib.hid (own_below3 HO.out hb2)
        have x0 := cell_on hb2 x0
        have x1 := cell_on hb2 x1
        have x2 := cell_on hb2 x2
        clear hb2
        go_wp2_with fail
        refine (right_any t0 t2 t1 _ (HE.out.keep HB2.out) HTS.out r HR.out).mono ?_
        rintro e w3 ⟨rfl, hb3⟩
        have HB3 := Lib.hid (bthen HB2.out hb3)
        have HO2 := Lib.hid (own_below3 HO1.out hb3)
        have x0 := cell_on hb3 x0
        have x1 := cell_on hb3 x1
        have x2 := cell_on hb3 x2
        have hsz3 : w.heap.size ≤ w3.heap.size := HB3.out.size
        clear hb3
        cases r with
        | false =>
          go_wp2_with fail
          go_roundw
          case rel => exact ⟨k + 1, R, by go_num, by omega, by omega, by rw [← HRL.out]; omega, by rw [← HRL.out]; exact HO2, HSM, HB3⟩
          case measure => simp [intOf]; omega
        | true =>
          go_wp2_with (at_builtin; refine wpList_append_own _ rfl _ _ 23 rfl w.heap.size 31 i0 (.agg #[.int .i64 0, .string ⟨#[]⟩, .int .i64 0]) 3 32 Tryd.underlying23 hi0 hz0 hz1 hz2 rfl (by decide) _ _ _ rfl (HO2.out.alloc _) ⟨w3.heap.size, 0, none⟩ 1 1 [.int .i64 t0, .string t1, .int .i64 t2] rfl rfl ?c1a ?c2a ?c3a ?c4a ?c5a ?_)
          case c1a =>
            intro j u hj
            match j, hj with
            | 0, hj => simp at hj; subst hj; simp [Addr.add]
            | 1, hj => simp at hj; subst hj; simp [Addr.add]
            | 2, hj => simp at hj; subst hj; simp [Addr.add]
          case c2a => intro u hu; simp at hu; rcases hu with rfl | rfl | rfl <;> rfl
          case c3a => unfold maxLen; omega
          case c4a => omega
          case c5a => simp; omega
          intro v5 w5 ho5 hg5 _
          have hb5 : Below w.heap.size w3 w5 := ((Below.refl _ w3).alloc hsz3 _).trans (grown_own3 (HO2.out.alloc _) hg5 (by simp; omega))
          have HO5 := Lib.hid (show w5.ownsRow w.heap.size 31 3 v5 (R ++ [(t0, t1, t2)]).length (cellsT (R ++ [(t0, t1, t2)])) by rw [cellsT_app, List.length_append, ← HRL.out]; exact ho5)
          have HB5 := Lib.hid (HB3.out.trans hb5)
          have HSM5 := Lib.hid (show smallT (R ++ [(t0, t1, t2)]) from fun t ht => by
            rcases List.mem_append.1 ht with h | h
            · exact HSM.out t h
            · rw [List.mem_singleton.1 h]; exact HTS.out)
          clear ho5 hg5 hb5
          go_wp2_with fail
          go_roundw
          case rel => exact ⟨k + 1, R ++ [(t0, t1, t2)], by go_num, by omega, by omega, by rw [List.length_append, ← HRL.out]; simp; omega, HO5, HSM5, HB5⟩
          case measure => simp [intOf]; omega
    · obtain ⟨hln, B, d, rfl, h1, h2, h3, h4⟩ := own_slice3 HO.out
      have HROW := Lib.hid h1
      have hrl9 : rl ≤ 1000 := by omega
      have hgo2 : ¬ (k : Int) < (n : Int) ∨ ¬ (k : Int) < 100 := by omega
      clear h1 h4 hln hgo
      rcases hgo2 with hq | hq
      all_goals (
        by_cases hq1 : (k : Int) < (n : Int)
        all_goals (
          go_wp2_with fail
          refine (alive_any _ (HE.out.keep HBW.out)).mono ?_
          rintro e w2 ⟨rfl, hb2⟩
          have HB2 := Lib.hid (bthen HBW.out hb2)
          have HR2 := Lib.hid (HROW.out.keep (Nat.le_refl _) hb2)
          clear hb2
          go_wp2_with fail
          refine (text_laws B rl d R _ HR2.out HRL.out hrl9 HSM.out).mono ?_
          rintro e w3 ⟨rfl, hb3⟩
          have HB3 := Lib.hid (bthen HB2.out hb3)
          have HR3 := Lib.hid (HR2.out.keep (Nat.le_refl _) hb3)
          obtain ⟨q, hq⟩ : ∃ q, q = bsOf (textL R) := ⟨_, rfl⟩
          have HQ := Lib.hid hq
          rw [← hq]
          clear hb3 hq
          go_wp2_with fail
          refine (reftext_any B rl d R _ HR3.out HRL.out hrl9 HSM.out).mono ?_
          rw [← HQ.out]
          rintro e w4 ⟨rfl, hb4⟩
          go_wp2_with fail
          go_ret
          exact ⟨by first | rfl | simp, bthen HB3.out hb4⟩))
theorem list_of {α : Type} {p : Nat → α → Prop} : ∀ n : Nat, (∀ i, i < n → ∃ a, p i a) → ∃ L : List α, L.length = n ∧ ∀ i (h : i < L.length), p i L[i] := by
  intro n
  induction n with
  | zero => intro _; exact ⟨[], rfl, by simp⟩
  | succ n ih =>
    intro h
    obtain ⟨L, h1, h2⟩ := ih (fun i hi => h i (by omega))
    obtain ⟨a, ha⟩ := h n (by omega)
    refine ⟨L ++ [a], by simp [h1], fun i hi => ?_⟩
    by_cases hl : i < L.length
    · rw [List.getElem_append_left hl]; exact h2 i hl
    · have : i = n := by simp at hi; omega
      subst this
      rw [List.getElem_append_right (by omega)]
      simpa using ha
section
variable {H : Type} {enc : TypeId × Value → H} {w : World} {base : Nat} {spare : Nat → Bool} {held : Bool}
set_option maxRecDepth 100000 in
theorem toks_opened {A : Option Addr} {len cap fuel : Nat} {x : DataW H × List MemPlace} (h : DataW.trod enc Tryd.prog w base spare held fuel 23 (Value.slice A len cap).cells.toList = some x) :
    ∃ L : List Tok, Row w A (cellsT L) ∧ len = L.length ∧ len ≤ maxLen ∧ len ≤ cap ∧ (∀ t ∈ L, t.2.1.size ≤ maxLen) := by
  rcases open_slice Tryd.underlying23 h with ⟨hcs, _⟩ | ⟨a, l, c, m, n, D, Pl, hcs, _, hl, hm, hmm, _, hi⟩
  · simp [Value.cells] at hcs
    obtain ⟨rfl, rfl, rfl⟩ := hcs
    exact ⟨[], .inl rfl, rfl, by simp [maxLen], by omega, by simp⟩
  · simp [Value.cells] at hcs
    obtain ⟨rfl, rfl, rfl⟩ := hcs
    have hC : Tryd.prog.cellsOf 31 = 3 := by kernel_rfl
    have hc3 : Tryd.prog.cellsOf 3 = 1 := by kernel_rfl
    have hc29 : Tryd.prog.cellsOf 29 = 1 := by kernel_rfl
    have hc9 : Tryd.prog.cellsOf 9 = 1 := by kernel_rfl
    rw [hC] at hi
    have hlm : len ≤ m := by rw [hmm]; split <;> omega
    obtain ⟨L, hL, hp⟩ := list_of (p := fun i (b : Tok) => (w.cell? (a.add (i * 3)) = some (.int .i64 b.1) ∧ w.cell? (a.add (i * 3 + 1)) = some (.string b.2.1) ∧ w.cell? (a.add (i * 3 + 2)) = some (.int .i64 b.2.2)) ∧ b.2.1.size ≤ maxLen) len (fun i hil => by
        obtain ⟨cs', hc, ht⟩ := hi i (by omega)
        obtain ⟨_, hcl, hat⟩ := World.cells?_some hc
        obtain ⟨ys, n', _, _, _, _, hf⟩ := DataW.trod_struct Tryd.underlying31 ht
        match cs', hcl with
        | [c0, c1, c2], _ =>
          have f0 : DataW.trod enc Tryd.prog w base spare held n' 29 ((([c0, c1, c2] : List Value).drop 0).take (Tryd.prog.cellsOf 29)) = ys[0]? := hf 0 _ rfl
          have f1 : DataW.trod enc Tryd.prog w base spare held n' 9 ((([c0, c1, c2] : List Value).drop 1).take (Tryd.prog.cellsOf 9)) = ys[1]? := hf 1 _ rfl
          have f2 : DataW.trod enc Tryd.prog w base spare held n' 3 ((([c0, c1, c2] : List Value).drop 2).take (Tryd.prog.cellsOf 3)) = ys[2]? := hf 2 _ rfl
          rw [hc29] at f0
          rw [hc9] at f1
          rw [hc3] at f2
          have g0 := hat 0 (by omega)
          have g1 := hat 1 (by omega)
          have g2 := hat 2 (by omega)
          rw [add_add] at g0 g1 g2
          have ysl : ys.length = 3 := by assumption
          match ys, ysl with
          | [y0, y1, y2], _ =>
            obtain ⟨z0, e0, _, b0⟩ := DataW.trod_int Tryd.underlying29 (x := y0) f0
            obtain ⟨z1, e1, _, b1⟩ := DataW.trod_string Tryd.underlying9 (x := y1) f1
            obtain ⟨z2, e2, _, b2⟩ := DataW.trod_int Tryd.underlying3 (x := y2) f2
            simp at e0 e1 e2
            subst e0 e1 e2
            exact ⟨(z0, z1, z2), ⟨g0, g1, g2⟩, b1⟩)
    refine ⟨L, ?_, hL.symm, by omega, hl, fun b hb => ?_⟩
    · rcases Nat.eq_zero_or_pos len with h0 | h0
      · exact .inl (by rw [List.eq_nil_of_length_eq_zero (by omega : L.length = 0)]; rfl)
      · obtain ⟨b, off, spot⟩ := a
        have h1 := (hp 0 (by omega)).1.1
        have hs : spot = none := by simpa [Addr.add] using World.cell?_spot h1
        subst hs
        have hadd : ∀ k, (⟨b, off, none⟩ : Addr).add k = ⟨b, off + k, none⟩ := by
          intro k; unfold Addr.add; split
          · rename_i h; subst h; rfl
          · rfl
        refine .inr ⟨b, off, rfl, fun j u hu => ?_⟩
        have hjl : j < L.length * 3 := by
          rcases Nat.lt_or_ge j (L.length * 3) with h | h
          · exact h
          · rw [List.getElem?_eq_none (by rw [cellsT_length]; omega)] at hu; cases hu
        have hk : j / 3 < L.length := by omega
        have hq := (hp (j / 3) hk).1
        simp only [hadd] at hq
        obtain ⟨q0, q1, q2⟩ := hq
        obtain ⟨e0, e1, e2⟩ := cellsT_get L (j / 3) hk
        rcases (by omega : j = j / 3 * 3 ∨ j = j / 3 * 3 + 1 ∨ j = j / 3 * 3 + 2) with h | h | h
        · rw [h] at hu ⊢; rw [e0] at hu; cases hu; exact q0
        · rw [h] at hu ⊢; rw [e1] at hu; cases hu; exact q1
        · rw [h] at hu ⊢; rw [e2] at hu; cases hu; exact q2
    · obtain ⟨i, hi, rfl⟩ := List.getElem_of_mem hb
      exact (hp i hi).2
end
end Go.Proofs.YtcpbjcemlkohkaaDoor
