/- Rows of tokens; the tokens of a text. -/
import Derived.Test.YtcpbjcemlkohkaaDoorV
namespace Go.Proofs.YtcpbjcemlkohkaaDoor
open Go.RowKit
set_option linter.unusedSimpArgs false
set_option linter.unusedVariables false
theorem info31 : (Tryd.prog.info? 31).map (fun i => (i.zero, i.size, i.bytes)) = some (some (.agg #[.int .i64 0, .string ⟨#[]⟩, .int .i64 0]), 3, 32) := by kernel_rfl
def cellsT (L : List Tok) : List Value := L.flatMap fun t => [.int .i64 t.1, .string t.2.1, .int .i64 t.2.2]
theorem cellsT_cons (t : Tok) (L : List Tok) : cellsT (t :: L) = .int .i64 t.1 :: .string t.2.1 :: .int .i64 t.2.2 :: cellsT L := by simp [cellsT]
theorem cellsT_app (L M : List Tok) : cellsT (L ++ M) = cellsT L ++ cellsT M := by simp [cellsT]
theorem cellsT_length : ∀ L : List Tok, (cellsT L).length = L.length * 3 := by
  intro L
  induction L with
  | nil => rfl
  | cons p L ih => rw [cellsT_cons, List.length_cons, List.length_cons, List.length_cons, ih, List.length_cons]; omega
theorem cellsT_get : ∀ (L : List Tok) (k : Nat) (h : k < L.length), (cellsT L)[k * 3]? = some (.int .i64 L[k].1) ∧ (cellsT L)[k * 3 + 1]? = some (.string L[k].2.1) ∧ (cellsT L)[k * 3 + 2]? = some (.int .i64 L[k].2.2) := by
  intro L
  induction L with
  | nil => intro k h; simp at h
  | cons p L ih =>
    intro k h
    rw [cellsT_cons]
    cases k with
    | zero => exact ⟨rfl, rfl, rfl⟩
    | succ k =>
      have := ih k (by simpa using h)
      rw [show (k + 1) * 3 = k * 3 + 3 by omega]
      exact ⟨by simpa using this.1, by simpa using this.2.1, by simpa using this.2.2⟩
theorem Row.at3 {w : World} {A : Option Addr} {L : List Tok} {k : Nat} (h : Row w A (cellsT L)) (hk : k < L.length) :
    ∃ b off, A = some ⟨b, off, none⟩ ∧ w.cell? ⟨b, off + k * 3, none⟩ = some (.int .i64 L[k].1) ∧ w.cell? ⟨b, off + k * 3 + 1, none⟩ = some (.string L[k].2.1) ∧ w.cell? ⟨b, off + k * 3 + 2, none⟩ = some (.int .i64 L[k].2.2) := by
  rcases h with h | ⟨b, off, rfl, hc⟩
  · have := cellsT_length L; rw [h] at this; simp at this; omega
  · obtain ⟨h1, h2, h3⟩ := cellsT_get L k hk
    exact ⟨b, off, rfl, hc _ _ h1, by have := hc _ _ h2; rwa [← Nat.add_assoc] at this, by have := hc _ _ h3; rwa [← Nat.add_assoc] at this⟩
theorem own_slice3 {B : Nat} {w : World} {v : Value} {n : Nat} {L : List Tok} (h : w.ownsRow B 31 3 v n (cellsT L)) : n = L.length ∧ ∃ A c, v = .slice A n c ∧ Row w A (cellsT L) ∧ n ≤ c ∧ c ≤ maxLen ∧ (A = none → c = 0) := by
  have hn : n = L.length := by have := h.1; rw [cellsT_length] at this; omega
  refine ⟨hn, ?_⟩
  rcases h.2 with ⟨rfl, h0⟩ | ⟨g, cap, cur, rfl, _, hc, h1, h2, h3, h4⟩
  · have hz0 : L = [] := List.length_eq_zero_iff.1 (by omega)
    exact ⟨none, 0, by rw [h0], .inl (by rw [hz0]; rfl), by omega, Nat.zero_le _, fun _ => rfl⟩
  · refine ⟨_, cap, rfl, ?_, h1, h2, fun h => by cases h⟩
    refine .inr ⟨g, 0, rfl, fun i u hu => ?_⟩
    rw [Nat.zero_add]
    have hcc : w.cell? ⟨g, i, none⟩ = cur[i]? := by simp [World.cell?, hc]
    rw [hcc, ← hu, ← h4, List.getElem?_take, Array.getElem?_toList, if_pos]
    rcases Nat.lt_or_ge i (n * 3) with h | h
    · exact h
    · rw [List.getElem?_eq_none (by rw [cellsT_length]; omega)] at hu; cases hu
theorem grown_own3 {w w' : World} {B : Nat} {v : Value} {n : Nat} {xs : List Value} {e : TypeId} (hown : w.ownsRow B e 3 v n xs) (hg : w.grownBy w' v.ownBlock) (h : B ≤ w.heap.size) : Below B w w' :=
  ⟨hg.os, hg.tape, hg.output, hg.size, fun i hi => hg.block i (by omega) (by
    rcases hown.2 with ⟨rfl, _⟩ | ⟨g, cap, cur, rfl, hb, _⟩
    · simp [Value.ownBlock]
    · simp [Value.ownBlock]; omega)⟩
theorem own_below3 {w w' : World} {B : Nat} {e : TypeId} {v : Value} {n : Nat} {xs : List Value} (h : w.ownsRow B e 3 v n xs) (hb : Below w.heap.size w w') : w'.ownsRow B e 3 v n xs :=
  h.kept (row := none) ⟨hb.os, hb.tape, hb.output, hb.size, fun i hi _ => hb.block i hi⟩ (by cases v.ownBlock <;> simp)
theorem toks_step {l : List UInt8} (h : l.dropWhile blank ≠ []) : toks l = match firstT (l.dropWhile blank) with
      | none => none
      | some (t, n) => (toks ((l.dropWhile blank).drop n)).map (t :: ·) := by
  rw [toks_eq]
  split
  · rename_i e; exact absurd e h
  · rename_i c r e; rw [e]; cases firstT (c :: r) <;> rfl
theorem toks_end {l : List UInt8} (h : l.dropWhile blank = []) : toks l = some [] := by rw [toks_eq, h]
def lexT (s : ByteArray) : Option (List Tok) := if 400 < s.size then none else toks (dat s)
def ToksP (w : World) (o : Option (List Tok)) (e : Ending) (w' : World) : Prop :=
  ((∃ L A c, o = some L ∧ L.length ≤ 400 ∧ e = .returned (.tuple #[.slice A L.length c, .int .i64 0]) ∧ Row w' A (cellsT L) ∧ L.length ≤ c ∧ c ≤ maxLen ∧ (A = none → c = 0)) ∨ (o = none ∧ e = .returned (.tuple #[.slice none 0 0, .int .i64 211]))) ∧ Below w.heap.size w w'
def lenV : Value → Nat | .string s => s.size | _ => 0
theorem map_map' {o : Option (List Tok)} {L : List Tok} {t : Tok} : (o.map (t :: ·)).map (L ++ ·) = o.map ((L ++ [t]) ++ ·) := by cases o <;> simp
set_option maxRecDepth 100000 in
set_option maxHeartbeats 16000000 in
theorem tokens_any (s : ByteArray) (w : World) (hE : Er w) (hs : s.size ≤ 9223372036854775807) : Calls Tryd.prog 8 #[.string s] w (ToksP w (lexT s)) := by
  obtain ⟨i0, hi0, hz0, hz1, hz2⟩ := info_parts info31
  have HE := Lib.hid hE
  obtain ⟨z, hz⟩ : ∃ z, s.size = z := ⟨_, rfl⟩
  have HLT := Lib.hid (show lexT s = if 400 < z then none else toks (dat s) by rw [← hz]; rfl)
  have HZ := Lib.hid hz
  clear hE
  by_cases hbig : 400 < z
  · have hb : (400 : Int) < (z : Int) := by omega
    have HF := Lib.hid (show lexT s = none by rw [HLT.out, if_pos hbig])
    clear hbig
    go_enter Tryd.func8, Tryd.ntmps8
    go_wp2_with fail
    go_ret2
    exact ⟨.inr ⟨HF.out, rfl⟩, Below.refl _ _⟩
  · have hb : ¬ (400 : Int) < (z : Int) := by omega
    have hz4 : z ≤ 400 := by omega
    have HF := Lib.hid (show lexT s = toks (dat s) by rw [HLT.out, if_neg hbig])
    clear hbig hs
    go_enter Tryd.func8, Tryd.ntmps8
    go_wp2_with fail
    go_loopw [0, 4, 5, 6] (fun x v p q wr => ∃ (u : ByteArray) (L : List Tok), x = .string u ∧ Hid (wr.ownsRow w.heap.size 31 3 v L.length (cellsT L)) ∧ Hid (Below w.heap.size w wr) ∧ Hid (lexT s = (toks (dat u)).map (L ++ ·)) ∧ L.length + u.size ≤ 400) (fun x _ _ _ _ => lenV x)
    case atStart => exact ⟨s, [], rfl, Lib.hid (World.ownsRow_nil _ _ _ _), Lib.hid (Below.refl _ _), Lib.hid (by rw [HF.out]; cases toks (dat s) <;> simp), by simp; omega⟩
    case round =>
      obtain ⟨u, L, rfl, HO, HBW, HR, hl⟩ := hrel
      obtain ⟨l, hl2⟩ : ∃ l, l = L.length := ⟨_, rfl⟩
      rw [← hl2] at hl HO
      have HL := Lib.hid hl2
      obtain ⟨zu, hzu⟩ : ∃ zu, u.size = zu := ⟨_, rfl⟩
      rw [hzu] at hl
      have HZU := Lib.hid hzu
      clear hl2 hzu
      go_wp2_with fail
      refine (trimleft_any u _).mono ?_
      rintro e w1 ⟨rfl, hb1⟩
      have HB1 := Lib.hid (bthen HBW.out hb1)
      have HO1 := Lib.hid (own_below3 HO.out hb1)
      have hdl := dw_len (dat u)
      rw [dat_len, HZU.out] at hdl
      have hsz1 : w.heap.size ≤ w1.heap.size := HB1.out.size
      clear hb1
      by_cases hnil : (dat u).dropWhile blank = []
      · have HX := Lib.hid (show lexT s = some L by rw [HR.out, toks_end hnil]; simp)
        rw [hnil, show bsOf [] = ⟨#[]⟩ from rfl]
        obtain ⟨hln, A, c, rfl, h1, h2, h3, h4⟩ := own_slice3 HO1.out
        have HRR := Lib.hid h1
        have HH4 := Lib.hid h4
        clear hnil hdl h1 h4 hln
        go_wp2_with fail
        go_ret2
        exact ⟨.inl ⟨L, A, c, HX.out, by have := HL.out; omega, by rw [← HL.out]; rfl, HRR.out, by have := HL.out; omega, h3, HH4.out⟩, HB1.out⟩
      · obtain ⟨d, hd⟩ : ∃ d, d = (dat u).dropWhile blank := ⟨_, rfl⟩
        rw [← hd] at hdl hnil
        obtain ⟨b, hb⟩ : ∃ b, b = bsOf d := ⟨_, rfl⟩
        have hbd : dat b = d := by rw [hb]; rfl
        have hbs : b.size = d.length := by rw [hb]; rfl
        have HD := Lib.hid hd
        have HST := Lib.hid (toks_step (l := dat u) (by rw [← hd]; exact hnil))
        rw [← hd] at HST
        have HBD := Lib.hid hbd
        have hb0 : 0 < b.size := by rw [hbs]; exact List.length_pos_iff.2 hnil
        have k1 : (b.toList == []) = false := str_ne_lit (l := []) (fun e => by rw [e] at hb0; exact absurd hb0 (by decide))
        obtain ⟨zb, hzb⟩ : ∃ zb, b.size = zb := ⟨_, rfl⟩
        have HZB := Lib.hid hzb
        have hzb9 : zb ≤ zu := by omega
        have hzb0 : 0 < zb := by omega
        rw [← hd, ← hb]
        have HB := Lib.hid hb
        have HBS := Lib.hid hbs
        have HB0 := Lib.hid hb0
        clear hd hb hbd hbs hnil hdl hzb hb0
        go_wp2_with fail
        refine (first_any b _ (HE.out.keep HB1.out) (by have := HZB.out; omega) HB0.out).mono ?_
        rintro e w2 ⟨hr, hb2⟩
        rw [HBD.out] at hr
        have HB2 := Lib.hid (bthen HB1.out hb2)
        have HO2 := Lib.hid (own_below3 HO1.out hb2)
        have hsz2 : w.heap.size ≤ w2.heap.size := HB2.out.size
        clear hb2
        rcases hr with ⟨⟨t0, t1, t2⟩, n, hf, rfl⟩ | ⟨hf, rfl⟩
        case inr =>
          have HX := Lib.hid (show lexT s = none by rw [HR.out, HST.out, hf]; rfl)
          clear hf
          unfold zeroTok
          go_wp2_with fail
          go_ret2
          exact ⟨.inr ⟨HX.out, rfl⟩, HB2.out.alloc HB2.out.size _⟩
        case inl =>
          have hn := first_pos hf
          rw [← HBS.out, HZB.out] at hn
          obtain ⟨hn1, hn2⟩ := hn
          have HX := Lib.hid (show lexT s = (toks (d.drop n)).map ((L ++ [(t0, t1, t2)]) ++ ·) by rw [HR.out, HST.out, hf]; exact map_map')
          have HSF := Lib.hid (slice_from b n (by have := HZB.out; omega))
          have HEX := Lib.hid (show dat (b.extract n b.size) = d.drop n by rw [ext_mid, dat_bs, HBD.out, List.take_of_length_le (by rw [← HBS.out]; exact Nat.le_refl _)])
          obtain ⟨u2, hu2⟩ : ∃ u2, u2 = b.extract n b.size := ⟨_, rfl⟩
          rw [← hu2] at HSF HEX
          have hsf := HSF.out
          have HUS := Lib.hid (show u2.size = zb - n by have h := congrArg List.length HEX.out; rw [dat_len, List.length_drop, ← HBS.out, HZB.out] at h; exact h)
          have hne : ((n : Int) == 0) = false := by rw [beq_eq_false_iff_ne]; omega
          clear hf hu2
          unfold tokV
          go_wp2_with (at_builtin; refine wpList_append_own _ rfl _ _ 23 rfl w.heap.size 31 i0 (.agg #[.int .i64 0, .string ⟨#[]⟩, .int .i64 0]) 3 32 Tryd.underlying23 hi0 hz0 hz1 hz2 rfl (by decide) _ _ _ rfl ((HO2.out.alloc _).alloc _) ⟨w2.heap.size + 1, 0, none⟩ 1 1 [.int .i64 t0, .string t1, .int .i64 t2] rfl rfl ?c1 ?c2 ?c3 ?c4 ?c5 ?_)
          case c1 =>
            intro j u hj
            match j, hj with
            | 0, hj => simp at hj; subst hj; simp [Addr.add]
            | 1, hj => simp at hj; subst hj; simp [Addr.add]
            | 2, hj => simp at hj; subst hj; simp [Addr.add]
          case c2 => intro u hu; simp at hu; rcases hu with rfl | rfl | rfl <;> rfl
          case c3 => unfold maxLen; omega
          case c4 => omega
          case c5 => simp; omega
          intro v5 w5 ho5 hg5 _
          have hb5 : Below w.heap.size w2 w5 := (((Below.refl _ w2).alloc hsz2 _).alloc (by simp; omega) _).trans (grown_own3 ((HO2.out.alloc _).alloc _) hg5 (by simp; omega))
          have HO5 := Lib.hid (show w5.ownsRow w.heap.size 31 3 v5 (L ++ [(t0, t1, t2)]).length (cellsT (L ++ [(t0, t1, t2)])) by rw [cellsT_app, List.length_append, ← HL.out]; exact ho5)
          have HB5 := Lib.hid (HB2.out.trans hb5)
          clear ho5 hg5 hb5
          go_wp2_with fail
          go_roundw
          case rel => exact ⟨u2, L ++ [(t0, t1, t2)], rfl, HO5, HB5, Lib.hid (by rw [HX.out, HEX.out]), by rw [List.length_append, HUS.out, ← HL.out]; simp; omega⟩
          case measure => show lenV (.string u2) < lenV (.string u); simp only [lenV]; rw [HUS.out, HZU.out]; omega
end Go.Proofs.YtcpbjcemlkohkaaDoor
