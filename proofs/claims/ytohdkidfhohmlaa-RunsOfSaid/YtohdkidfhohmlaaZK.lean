/- The law RunsOf: its walk. -/
import Derived.Test.YtohdkidfhohmlaaZJ
namespace Go.Proofs.Ytohdkidfhohmlaa
open Go.ChangeShapes Go.WideShapes Go.Deep Go.RowKit
set_option linter.unusedSimpArgs false
set_option linter.unusedVariables false
theorem ints_none {H : Type} {enc : TypeId × Value → H} {w : World} {base : Nat} {spare : Nat → Bool} {held : Bool} {A : Option Addr} {len cap fuel : Nat} {x : DataW H × List MemPlace}
    (h : DataW.trod enc Try.prog w base spare held fuel 22 (Value.slice A len cap).cells.toList = some x) : A = none → len = 0 ∧ cap = 0 := by
  rcases open_slice Try.underlying22 h with ⟨hcs, _⟩ | ⟨a, l, c, m, n, D, Pl, hcs, _, hl, hm, hmm, _, hi⟩
  · simp [Value.cells] at hcs
    obtain ⟨rfl, rfl, rfl⟩ := hcs
    exact fun _ => ⟨rfl, rfl⟩
  · simp [Value.cells] at hcs
    obtain ⟨rfl, rfl, rfl⟩ := hcs
    intro h; cases h
theorem append_ints {ops : Array Oper} {rest : List Oper} {o : Oper} {a : Act} {Q : Exit → Act → World → Prop} {w : World} (hgd : o.guard = none) (s x : Operand)
    (ho : o.op = .call { callee := .builtin .append, args := #[s, x], argTypes := #[22, 22] }) (B : Nat) (v : Value) (hs : a.eval s = v) (hown : w.ownsRow B 3 1 v 0 [])
    (A : Option Addr) (n c : Nat) (L : List Int) (hx : a.eval x = .slice A n c) (hA : Row w A (L.map (Value.int .i64))) (hz : n = L.length) (hnone : A = none → n = 0 ∧ c = 0) (hn : n ≤ 1000000) (hB : B ≤ w.heap.size)
    (h : ∀ v' w', w'.ownsRow B 3 1 v' n (L.map (Value.int .i64)) → Below B w w' → wpList Try.prog ops Q rest (a.put o.dst v') w') : wpList Try.prog ops Q (o :: rest) a w := by
  obtain ⟨i0, hi0, hz0, hz1, hz2⟩ := info_parts Try.info3
  cases A with
  | none =>
    obtain ⟨rfl, rfl⟩ := hnone rfl
    have hl : L = [] := List.length_eq_zero_iff.1 hz.symm
    subst hl
    exact wpList_append_own_none hgd s x 22 ho B 3 i0 1 Try.underlying22 hi0 v 0 [] hs hown hx (h v w hown (Below.refl _ _))
  | some ad =>
    have hnews : ∀ j u, (L.map (Value.int .i64))[j]? = some u → w.cell? (ad.add j) = some u := by
      intro j u hu
      rcases hA with h0 | ⟨b, off, he, hc⟩
      · rw [h0] at hu; simp at hu
      · cases he
        have hadd : (⟨b, off, none⟩ : Addr).add j = ⟨b, off + j, none⟩ := by
          unfold Addr.add; split
          · rename_i h; subst h; rfl
          · rfl
        rw [hadd]; exact hc j u hu
    refine wpList_append_own w hgd s x 22 ho B 3 i0 (.int .i64 0) 1 8 Try.underlying22 hi0 hz0 hz1 hz2 rfl (by decide) v 0 [] hs hown ad n c (L.map (Value.int .i64)) hx (by rw [List.length_map, hz, Nat.mul_one]) hnews ?_ (by unfold maxLen; omega) (by omega) hB ?_
    · intro u hu
      obtain ⟨q, _, rfl⟩ := List.mem_map.1 hu; rfl
    · intro v' w' hown' hgrow _
      refine h v' w' ?_ ((Below.refl B w).grown hgrow hB (fun k hk => (hown.lt k hk).1))
      simpa using hown'
theorem pw_ext : ∀ {l r : List Int}, l.Pairwise (· < ·) → r.Pairwise (· < ·) → (∀ e, e ∈ l ↔ e ∈ r) → l = r := by
  intro l
  induction l with
  | nil =>
    intro r _ _ h
    cases r with
    | nil => rfl
    | cons b r => exact absurd ((h b).2 (by simp)) (by simp)
  | cons a l ih =>
    intro r h1 h2 h
    cases r with
    | nil => exact absurd ((h a).1 (by simp)) (by simp)
    | cons b r =>
      obtain ⟨p1, p2⟩ := List.pairwise_cons.1 h1
      obtain ⟨q1, q2⟩ := List.pairwise_cons.1 h2
      have hab : a = b := by
        rcases List.mem_cons.1 ((h a).1 (by simp)) with e | e
        · exact e
        · rcases List.mem_cons.1 ((h b).2 (by simp)) with e2 | e2
          · exact e2.symm
          · have := q1 a e; have := p1 b e2; omega
      subst hab
      rw [ih p2 q2 (fun e => ?_)]
      constructor
      · intro he
        rcases List.mem_cons.1 ((h e).1 (by simp [he])) with e2 | e2
        · subst e2; have := p1 e he; omega
        · exact e2
      · intro he
        rcases List.mem_cons.1 ((h e).2 (by simp [he])) with e2 | e2
        · subst e2; have := q1 e he; omega
        · exact e2
def ROfPost (w : World) (zs : List Int) (e : Ending) (w' : World) : Prop :=
  Below w.heap.size w w' ∧ (((∀ x ∈ zs, 0 ≤ x ∧ x < 65536) ∧ ∃ L A c, e = .returned (.tuple #[.slice A L.length c, .int .i64 0]) ∧ Row w' A (cellsP L) ∧ rightB (-1) L = true ∧ ∀ x, hasB x L = decide (x ∈ zs)) ∨
    ((¬ ∀ x ∈ zs, 0 ≤ x ∧ x < 65536) ∧ e = .returned (.tuple #[.slice none 0 0, .int .i64 41])))
set_option maxRecDepth 100000 in
set_option maxHeartbeats 4000000 in
theorem rof_any (A : Option Addr) (n c : Nat) (zs : List Int) (w : World) (hA : Row w A (zs.map (Value.int .i64))) (hz : n = zs.length) (hn : n ≤ 1000000) :
    Calls Try.prog 12 #[.slice A n c] w (ROfPost w zs) := by
  have HZ := Lib.hid hz
  have HA := Lib.hid hA
  clear hz hA
  go_enter Try.func12, Try.ntmps12
  go_wp2_with fail
  go_loopw [4] (fun a wr => ∃ k : Nat, k ≤ n ∧ a = .int .i64 k ∧ Hid (∀ x ∈ zs.take k, 0 ≤ x ∧ x < 65536) ∧ Hid (Below w.heap.size w wr)) (fun a _ => n - (intOf a).toNat)
  case atStart => exact ⟨0, by omega, rfl, Lib.hid (by simp), Lib.hid (Below.refl _ _)⟩
  case round =>
    obtain ⟨k, hk, rfl, HG, HB⟩ := hrel
    by_cases hlt : k < n
    · have hkz : k < zs.length := by have := HZ.out; omega
      obtain ⟨b, off, hA', c0⟩ := (HA.out.keep (Nat.le_refl _) HB.out).cell hkz
      obtain ⟨x, hx⟩ : ∃ x, x = zs[k] := ⟨_, rfl⟩
      rw [← hx] at c0
      have hxm : x ∈ zs := by rw [hx]; exact List.getElem_mem hkz
      have hk1 : (k : Int) < (n : Int) := by omega
      have hk0 : (0 : Int) ≤ (k : Int) := by omega
      by_cases hx0 : x < 0
      · have HNO := Lib.hid (show ¬ ∀ x ∈ zs, 0 ≤ x ∧ x < 65536 from fun h => by have := h x hxm; omega)
        have hd1 : decide (x < 0) = true := by simp; omega
        clear hx hxm
        subst hA'
        go_wp2_with fail
        go_ret2
        exact ⟨HB.out, .inr ⟨HNO.out, rfl⟩⟩
      · by_cases hx6 : 65536 ≤ x
        · have HNO := Lib.hid (show ¬ ∀ x ∈ zs, 0 ≤ x ∧ x < 65536 from fun h => by have := h x hxm; omega)
          have hd1 : decide (x < 0) = false := by simp; omega
          have hd2 : decide (65536 ≤ x) = true := by simp; omega
          clear hx hxm
          subst hA'
          go_wp2_with fail
          go_ret2
          exact ⟨HB.out, .inr ⟨HNO.out, rfl⟩⟩
        · have HG2 := Lib.hid (show ∀ x ∈ zs.take (k + 1), 0 ≤ x ∧ x < 65536 by
            rw [take_snoc zs k hkz]; intro e he
            rcases List.mem_append.1 he with he | he
            · exact HG.out e he
            · simp at he; subst he; rw [← hx]; omega)
          have hd1 : decide (x < 0) = false := by simp; omega
          have hd2 : decide (65536 ≤ x) = false := by simp; omega
          clear hx hxm
          subst hA'
          go_wp2_with fail
          go_roundw
          case rel => exact ⟨k + 1, by omega, by go_num, HG2, HB⟩
          case measure => simp [intOf]; omega
    · have HF := Lib.hid (show zs.take k = zs from List.take_of_length_le (by have := HZ.out; omega))
      have hk1 : ¬ (k : Int) < (n : Int) := by omega
      go_wp2_with fail
      refine (rising_any A n c zs _ (HA.out.keep (Nat.le_refl _) HB.out) HZ.out hn).mono ?_
      rintro e w1 ⟨r, hr1, hr2, hr3, A1, c1, rfl, hrow, hB1⟩
      have HR1 := Lib.hid hr1
      have HR2 := Lib.hid hr2
      have HROW := Lib.hid hrow
      have HB1 := Lib.hid (bthen HB.out hB1)
      have HL := Lib.hid (show r.length ≤ n by rw [HZ.out]; exact hr3)
      clear hr1 hr2 hr3 hrow hB1
      go_wp2_with fail
      refine (rset_any A1 r.length c1 r _ HROW.out rfl (by have := HL.out; omega) (ris_of HR1.out (fun x hx => by have h := (HR2.out x).1 hx; rw [← HF.out] at h; exact HG.out x h))).mono ?_
      rintro e w2 ⟨L, A2, c2, rfl, hr2', ht2, hh2, hB2⟩
      have HX := Lib.hid (And.intro hr2' (And.intro ht2 hh2))
      have HB2 := Lib.hid (bthen HB1.out hB2)
      clear hr2' ht2 hh2 hB2
      go_wp2_with fail
      go_ret2
      exact ⟨HB2.out, .inl ⟨fun x hx => HG.out x (by rw [HF.out]; exact hx), L, A2, c2, rfl, HX.out.1, HX.out.2.1, fun x => by rw [HX.out.2.2, decide_eq_decide]; exact HR2.out x⟩⟩
set_option maxRecDepth 100000 in
set_option maxHeartbeats 4000000 in
theorem of_walk (A : Option Addr) (n c : Nat) (zs : List Int) (w : World) (hA : Row w A (zs.map (Value.int .i64))) (hz : n = zs.length) (hnone : A = none → n = 0 ∧ c = 0) (hb : ∀ x ∈ zs, -9223372036854775808 ≤ x ∧ x ≤ 9223372036854775807) :
    Calls Try.prog 3 #[.slice A n c] w fun e w' => e = .returned (.bool true) ∧ Below w.heap.size w w' := by
  subst hz
  obtain ⟨n, hn⟩ : ∃ n, n = zs.length := ⟨_, rfl⟩
  rw [← hn] at hnone ⊢
  have HZ := Lib.hid hn
  have HA := Lib.hid hA
  have HN := Lib.hid hnone
  have HBD := Lib.hid hb
  clear hn hA hnone hb
  by_cases hbig : 300 < n
  · have hb1 : (300 : Int) < (n : Int) := by omega
    go_enter Try.func3, Try.ntmps3
    go_wp2_with fail
    refine (alive_any _).mono ?_
    rintro e w1 ⟨rfl, hB⟩
    have HB := Lib.hid hB
    clear hB
    go_wp2_with fail
    go_ret
    exact ⟨rfl, HB.out⟩
  · have hb1 : ¬ (300 : Int) < (n : Int) := by omega
    go_enter Try.func3, Try.ntmps3
    go_wp2_with (at_builtin; refine append_ints rfl _ _ rfl w.heap.size (.slice (some ⟨w.heap.size, 0, none⟩) 0 0) rfl (own_empty (Nat.le_refl _)) A n c zs rfl (HA.out.keep (Nat.le_refl _) (bpush (Below.refl _ _) _)) HZ.out HN.out (by omega) (by simp) ?_)
    intro v1 w1 hown1 hB1
    obtain ⟨Aw, cw, rfl, hrw⟩ := ints_slice hown1
    have HRW := Lib.hid hrw
    have HB1 := Lib.hid (show Below w.heap.size w w1 from (bpush (Below.refl _ _) _).trans hB1)
    clear hown1 hrw hB1
    have HA1 := Lib.hid (HA.out.keep (Nat.le_refl _) HB1.out)
    go_wp2_with fail
    refine (of_any A n c zs _ HA1.out HZ.out (by omega) HBD.out).mono ?_
    rintro e w2 ⟨hB2, hcase⟩
    have HA2 := Lib.hid (HA1.out.keep (Nat.le_refl _) hB2)
    have HRW2 := Lib.hid (HRW.out.keep (Nat.le_refl _) hB2)
    have HB2 := Lib.hid (bthen HB1.out hB2)
    clear hB2
    rcases hcase with ⟨hin, L, A2, c2, rfl, hr2, hl2, ht2, hh2⟩ | ⟨hno, rfl⟩
    · have HIN := Lib.hid hin
      have HR2 := Lib.hid hr2
      have HT2 := Lib.hid ht2
      have HH2 := Lib.hid hh2
      clear hin hr2 hl2 ht2 hh2
      go_wp2_with fail
      refine (rof_any A n c zs _ HA2.out HZ.out (by omega)).mono ?_
      rintro e w3 ⟨hB3, ⟨_, L3, A3, c3, rfl, hr3, ht3, hh3⟩ | ⟨hno, _⟩⟩
      rotate_left
      · exact absurd HIN.out hno
      obtain rfl : L = L3 := right_ext HT2.out ht3 (fun x => by rw [HH2.out, hh3])
      have HR3 := Lib.hid hr3
      have HR23 := Lib.hid (HR2.out.keep (Nat.le_refl _) hB3)
      have HA3 := Lib.hid (HA2.out.keep (Nat.le_refl _) hB3)
      have HRW3 := Lib.hid (HRW2.out.keep (Nat.le_refl _) hB3)
      have HB3 := Lib.hid (bthen HB2.out hB3)
      have HLL := Lib.hid (right_length HT2.out)
      clear hr3 ht3 hh3 hB3
      go_wp2_with fail
      refine (same_yes A2 A3 L.length c2 L.length c3 L _ HR23.out HR3.out rfl rfl (by have := HLL.out; omega)).mono ?_
      rintro e w4 ⟨rfl, hB4⟩
      have HR24 := Lib.hid (HR23.out.keep (Nat.le_refl _) hB4)
      have HA4 := Lib.hid (HA3.out.keep (Nat.le_refl _) hB4)
      have HRW4 := Lib.hid (HRW3.out.keep (Nat.le_refl _) hB4)
      have HB4 := Lib.hid (bthen HB3.out hB4)
      clear hB4
      go_wp2_with fail
      refine (ints_yes A Aw n c n cw zs _ HA4.out HRW4.out rfl HZ.out (by omega)).mono ?_
      rintro e w5 ⟨rfl, hB5⟩
      have HR25 := Lib.hid (HR24.out.keep (Nat.le_refl _) hB5)
      have HA5 := Lib.hid (HA4.out.keep (Nat.le_refl _) hB5)
      have HB5 := Lib.hid (bthen HB4.out hB5)
      clear hB5
      go_wp2_with fail
      refine (alive_any _).mono ?_
      rintro e w6 ⟨rfl, hB6⟩
      have HR26 := Lib.hid (HR25.out.keep (Nat.le_refl _) hB6)
      have HA6 := Lib.hid (HA5.out.keep (Nat.le_refl _) hB6)
      have HB6 := Lib.hid (bthen HB5.out hB6)
      clear hB6
      go_wp2_with fail
      refine (list_any A2 L.length c2 L _ HR26.out rfl (by have := HLL.out; omega) HT2.out).mono ?_
      rintro e w7 ⟨A7, c7, rfl, hr7, hB7⟩
      have HR7 := Lib.hid hr7
      have HA7 := Lib.hid (HA6.out.keep (Nat.le_refl _) hB7)
      have HB7 := Lib.hid (bthen HB6.out hB7)
      clear hr7 hB7
      go_wp2_with fail
      refine (rising_any A n c zs _ HA7.out HZ.out (by omega)).mono ?_
      rintro e w8 ⟨r, hr1, hr2, hr3, A8, c8, rfl, hr8, hB8⟩
      obtain rfl : listL L = r := pw_ext (listL_pair HT2.out).1 hr1 (fun e => by rw [mem_list, HH2.out, decide_eq_true_eq, hr2])
      have HR8 := Lib.hid hr8
      have HR78 := Lib.hid (HR7.out.keep (Nat.le_refl _) hB8)
      have HB8 := Lib.hid (bthen HB7.out hB8)
      have HLS := Lib.hid (listL_short HT2.out)
      clear hr1 hr2 hr3 hr8 hB8
      obtain ⟨q, hq⟩ : ∃ q, q = (listL L).length := ⟨_, rfl⟩
      rw [← hq]
      have HQ := Lib.hid hq
      clear hq
      go_wp2_with fail
      refine (ints_yes A7 A8 q c7 q c8 (listL L) _ HR78.out HR8.out rfl HQ.out (by have := HLS.out; have := HQ.out; omega)).mono ?_
      rintro e w9 ⟨rfl, hB9⟩
      have HB9 := Lib.hid (bthen HB8.out hB9)
      clear hB9
      go_wp2_with fail
      go_ret
      exact ⟨rfl, HB9.out⟩
    · have HNO := Lib.hid hno
      clear hno
      go_wp2_with fail
      refine (rof_any A n c zs _ HA2.out HZ.out (by omega)).mono ?_
      rintro e w3 ⟨hB3, ⟨hin, _⟩ | ⟨_, rfl⟩⟩
      · exact absurd hin HNO.out
      have HA3 := Lib.hid (HA2.out.keep (Nat.le_refl _) hB3)
      have HRW3 := Lib.hid (HRW2.out.keep (Nat.le_refl _) hB3)
      have HB3 := Lib.hid (bthen HB2.out hB3)
      clear hB3
      go_wp2_with fail
      refine (same_yes none none 0 0 0 0 [] _ (.inl rfl) (.inl rfl) rfl rfl (by omega)).mono ?_
      rintro e w4 ⟨rfl, hB4⟩
      have HA4 := Lib.hid (HA3.out.keep (Nat.le_refl _) hB4)
      have HRW4 := Lib.hid (HRW3.out.keep (Nat.le_refl _) hB4)
      have HB4 := Lib.hid (bthen HB3.out hB4)
      clear hB4
      go_wp2_with fail
      refine (ints_yes A Aw n c n cw zs _ HA4.out HRW4.out rfl HZ.out (by omega)).mono ?_
      rintro e w5 ⟨rfl, hB5⟩
      have HB5 := Lib.hid (bthen HB4.out hB5)
      clear hB5
      go_wp2_with fail
      refine (alive_any _).mono ?_
      rintro e w6 ⟨rfl, hB6⟩
      have HB6 := Lib.hid (bthen HB5.out hB6)
      clear hB6
      go_wp2_with fail
      go_ret
      exact ⟨rfl, HB6.out⟩
end Go.Proofs.Ytohdkidfhohmlaa
