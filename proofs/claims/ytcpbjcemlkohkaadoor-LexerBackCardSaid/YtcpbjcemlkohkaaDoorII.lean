/- append of a list of tokens; LexerPieces' walk. -/
import Derived.Test.YtcpbjcemlkohkaaDoorHH
import Derived.Test.YtcpbjcemlkohkaaDoorFF
import Derived.Deep.AppendLies
import Derived.Maps.AppendAt
namespace Go.Proofs.YtcpbjcemlkohkaaDoor
open Go.RowKit
set_option linter.unusedSimpArgs false
set_option linter.unusedVariables false
theorem one_toks (L : List Tok) : ∀ u ∈ cellsT L, u.oneCell' = true := by
  intro u hu
  unfold cellsT at hu
  obtain ⟨t, _, h⟩ := List.mem_flatMap.1 hu
  simp at h
  rcases h with rfl | rfl | rfl <;> rfl
theorem row_at' {w : World} {a : Addr} {xs : List Value} (h : Row w (some a) xs) : ∀ j u, xs[j]? = some u → w.cell? (a.add j) = some u := by
  intro j u hu
  rcases h with rfl | ⟨b, off, he, hc⟩
  · simp at hu
  · cases he
    have := hc j u hu
    unfold Addr.add
    split
    · rename_i h; subst h; simpa using this
    · simpa using this
theorem own_empty {w : World} {B : Nat} {t : TypeId} {size : Nat} (hB : B ≤ w.heap.size) : (w.alloc (.cells #[] t)).ownsRow B t size (.slice (some ⟨w.heap.size, 0, none⟩) 0 0) 0 [] :=
  ⟨by simp, .inr ⟨w.heap.size, 0, #[], rfl, hB, heap_alloc_new w _, Nat.le_refl _, Nat.zero_le _, by simp, by simp⟩⟩
theorem run_append_toks (w : World) (ty : TypeId) (base : Nat) (v : Value) (n : Nat) (xs : List Value) (hown : w.ownsRow base 31 3 v n xs) (A : Option Addr) (m c : Nat) (M : List Tok)
    (hrow : Row w A (cellsT M)) (hm : m = M.length) (hmc : m ≤ c) (ha : A = none → c = 0) (h63 : (n + m) * 32 ≤ 140737488355328) (hbase : base ≤ w.heap.size) :
    ∃ v' w', (Builtin.append_ #[23, 23] ty #[v, .slice A m c]).run Tryd.prog w = .ok v' w' ∧ w'.ownsRow base 31 3 v' (n + m) (xs ++ cellsT M) ∧ w.grownBy w' v.ownBlock ∧ (v'.ownBlock = v.ownBlock ∨ v'.ownBlock = some w.heap.size) := by
  obtain ⟨i0, hi0, hz0, hz1, hz2⟩ := info_parts info31
  cases A with
  | none =>
    have e1 : c = 0 := ha rfl
    have e2 : m = 0 := by omega
    have e3 : M = [] := List.eq_nil_of_length_eq_zero (by omega)
    subst e1 e2 e3
    have hrun := run_append_owned_none (P := Tryd.prog) (w := w) base 23 ty 31 i0 3 Tryd.underlying23 hi0 v n xs hown
    exact ⟨v, w, hrun, by simpa [cellsT] using hown, ⟨rfl, rfl, rfl, Nat.le_refl _, fun _ _ _ => rfl⟩, .inl rfl⟩
  | some a =>
    obtain ⟨v', w', hr, h2, h3, _, h5⟩ := run_append_own_at (P := Tryd.prog) w base 23 ty 31 i0 (.agg #[.int .i64 0, .string ⟨#[]⟩, .int .i64 0]) 3 32 Tryd.underlying23 hi0 hz0 hz1 hz2 rfl (by decide) v n xs hown a m c (cellsT M) (by rw [cellsT_length, hm]) (row_at' hrow) (one_toks M) (by unfold maxLen; omega) h63 hbase
    exact ⟨v', w', hr, h2, h3, h5⟩
theorem wpList_append_toks {w : World} {ops : Array Oper} {rest : List Oper} {o : Oper} {a : Act} {Q : Exit → Act → World → Prop} (hw : Region.wanted o (yielded ops a.tmps) = true) (s x : Operand)
    (ho : o.op = .call { callee := .builtin .append, args := #[s, x], argTypes := #[23, 23] })
    (base : Nat) (v : Value) (n : Nat) (xs : List Value) (hs : a.eval s = v) (A : Option Addr) (m c : Nat) (M : List Tok) (hx : a.eval x = .slice A m c) (hown : w.ownsRow base 31 3 v n xs)
    (hrow : Row w A (cellsT M)) (hm : m = M.length) (hmc : m ≤ c) (ha : A = none → c = 0) (h63 : (n + m) * 32 ≤ 140737488355328) (hbase : base ≤ w.heap.size)
    (h : ∀ v' w', w'.ownsRow base 31 3 v' (n + m) (xs ++ cellsT M) → w.grownBy w' v.ownBlock → wpList Tryd.prog ops Q rest (a.put o.dst v') w') :
    wpList Tryd.prog ops Q (o :: rest) a w := by
  refine wpList_step fun K hK => ?_
  rw [if_pos hw]
  obtain ⟨v', w', hr, h2, h3, h4⟩ := run_append_toks w o.type base v n xs hown A m c M hrow hm hmc ha h63 hbase
  unfold Oper.wp execOp
  simp only [ho, resolve, invoke, builtin, Sem.run_bind, Sem.run_pure, Result.andThen_ok, List.map_toArray, List.map_cons, List.map_nil, hs, hx, hr]
  exact hK _ _ (h v' w' h2 h3)
set_option maxRecDepth 100000 in
set_option maxHeartbeats 16000000 in
theorem pieces_walk (a b : ByteArray) (w : World) (hE : Er w) (ha : a.size ≤ 9223372036854775807) (hb : b.size ≤ 9223372036854775807) :
    Calls Tryd.prog 6 #[.string a, .string b] w fun e w' => e = .returned (.bool true) ∧ Below w.heap.size w w' := by
  have HE := Lib.hid hE
  have HAS := Lib.hid ha
  have HBS := Lib.hid hb
  obtain ⟨y, hy⟩ : ∃ y, a.size = y := ⟨_, rfl⟩
  obtain ⟨z, hz⟩ : ∃ z, b.size = z := ⟨_, rfl⟩
  have HB := Lib.hid (Below.refl w.heap.size w)
  have HY := Lib.hid hy
  have HZ := Lib.hid hz
  clear hE
  by_cases h1 : 500 < y
  · have k1 : (500 : Int) < (y : Int) := by omega
    clear h1 ha hb
    go_enter Tryd.func6, Tryd.ntmps6
    go_wp2_with fail
    refine (alive_any _ (HE.out.keep HB.out)).mono ?_
    rintro e w9 ⟨rfl, hb9⟩
    go_wp2_with fail
    go_ret
    exact ⟨rfl, bthen HB.out hb9⟩
  by_cases h2 : 500 < z
  · have k1 : ¬ (500 : Int) < (y : Int) := by omega
    have k2 : (500 : Int) < (z : Int) := by omega
    clear h1 h2 ha hb
    go_enter Tryd.func6, Tryd.ntmps6
    go_wp2_with fail
    refine (alive_any _ (HE.out.keep HB.out)).mono ?_
    rintro e w9 ⟨rfl, hb9⟩
    go_wp2_with fail
    go_ret
    exact ⟨rfl, bthen HB.out hb9⟩
  by_cases h3 : 400 ≤ y + z
  · have k1 : ¬ (500 : Int) < (y : Int) := by omega
    have k2 : ¬ (500 : Int) < (z : Int) := by omega
    have k3 : (400 : Int) ≤ (y : Int) + (z : Int) := by omega
    clear h1 h2 h3 ha hb
    go_enter Tryd.func6, Tryd.ntmps6
    go_wp2_with fail
    refine (alive_any _ (HE.out.keep HB.out)).mono ?_
    rintro e w9 ⟨rfl, hb9⟩
    go_wp2_with fail
    go_ret
    exact ⟨rfl, bthen HB.out hb9⟩
  have k1 : ¬ (500 : Int) < (y : Int) := by omega
  have k2 : ¬ (500 : Int) < (z : Int) := by omega
  have k3 : ¬ (400 : Int) ≤ (y : Int) + (z : Int) := by omega
  have hyz : y + z < 400 := by omega
  obtain ⟨u, hu⟩ : ∃ u, u = a ++ ⟨#[32]⟩ ++ b := ⟨_, rfl⟩
  have hud : dat u = dat a ++ 32 :: dat b := by
    rw [hu, dat_append, dat_append, List.append_assoc]; rfl
  have hus : u.size ≤ 400 := by
    have h := congrArg List.length hud
    rw [dat_len, List.length_append, List.length_cons, dat_len, dat_len] at h; omega
  have HLA := Lib.hid (show lexT a = toks (dat a) by unfold lexT; rw [if_neg (by omega)])
  have HLB := Lib.hid (show lexT b = toks (dat b) by unfold lexT; rw [if_neg (by omega)])
  have HLU := Lib.hid (show lexT u = toks (dat a ++ 32 :: dat b) by unfold lexT; rw [if_neg (by omega), hud])
  have HUS := Lib.hid (show u.size ≤ 9223372036854775807 by omega)
  have HU := Lib.hid hu
  clear h1 h2 h3 ha hb hu hud hus
  go_enter Tryd.func6, Tryd.ntmps6
  go_wp2_with fail
  refine (tokens_any a _ HE.out HAS.out).mono ?_
  rintro e w1 ⟨ha, hb1⟩
  have HB1 := Lib.hid hb1
  have HHA := Lib.hid ha
  obtain ⟨fa, va, rfl, HFA⟩ : ∃ fa va, e = .returned (.tuple #[va, .int .i64 fa]) ∧ Hid ((fa = 0 ∧ ∃ L A c, lexT a = some L ∧ L.length ≤ 400 ∧ va = .slice A L.length c ∧ Row w1 A (cellsT L) ∧ L.length ≤ c ∧ (A = none → c = 0)) ∨ fa = 211) := by
    rcases ha with ⟨L, A, c, h1, h2, h3, h4, h5, h6, h7⟩ | ⟨h1, h2⟩
    · exact ⟨0, _, h3, Lib.hid (.inl ⟨rfl, L, A, c, h1, h2, rfl, h4, h5, h7⟩)⟩
    · exact ⟨211, _, h2, Lib.hid (.inr rfl)⟩
  clear ha hb1
  go_wp2_with fail
  refine (tokens_any b _ (HE.out.keep HB1.out) HBS.out).mono ?_
  rintro e w2 ⟨ha, hb2⟩
  have HB2 := Lib.hid (bthen HB1.out hb2)
  have HK2 := Lib.hid hb2
  obtain ⟨fb, vb, rfl, HFB⟩ : ∃ fb vb, e = .returned (.tuple #[vb, .int .i64 fb]) ∧ Hid ((fb = 0 ∧ ∃ L A c, lexT b = some L ∧ L.length ≤ 400 ∧ vb = .slice A L.length c ∧ Row w2 A (cellsT L) ∧ L.length ≤ c ∧ (A = none → c = 0)) ∨ fb = 211) := by
    rcases ha with ⟨L, A, c, h1, h2, h3, h4, h5, h6, h7⟩ | ⟨h1, h2⟩
    · exact ⟨0, _, h3, Lib.hid (.inl ⟨rfl, L, A, c, h1, h2, rfl, h4, h5, h7⟩)⟩
    · exact ⟨211, _, h2, Lib.hid (.inr rfl)⟩
  clear ha hb2
  go_wp2_with fail
  rw [← HU.out]
  refine (tokens_any u _ (HE.out.keep HB2.out) HUS.out).mono ?_
  rintro e w3 ⟨ha, hb3⟩
  have HB3 := Lib.hid (bthen HB2.out hb3)
  have HK3 := Lib.hid hb3
  obtain ⟨fu, vu, rfl, HFU⟩ : ∃ fu vu, e = .returned (.tuple #[vu, .int .i64 fu]) ∧ Hid ((fu = 0 ∧ ∃ L A c, lexT u = some L ∧ L.length ≤ 400 ∧ vu = .slice A L.length c ∧ Row w3 A (cellsT L)) ∨ (fu = 211 ∧ lexT u = none)) := by
    rcases ha with ⟨L, A, c, h1, h2, h3, h4, h5, h6, h7⟩ | ⟨h1, h2⟩
    · exact ⟨0, _, h3, Lib.hid (.inl ⟨rfl, L, A, c, h1, h2, rfl, h4⟩)⟩
    · exact ⟨211, _, h2, Lib.hid (.inr ⟨rfl, h1⟩)⟩
  clear ha hb3
  rcases HFA.out with ⟨rfl, L, A, c, hL, hl4, rfl, hrowA, hlc, hnA⟩ | rfl
  case inr =>
    have HB := HB3
    go_wp2_with fail
    refine (alive_any _ (HE.out.keep HB.out)).mono ?_
    rintro e w9 ⟨rfl, hb9⟩
    go_wp2_with fail
    go_ret
    exact ⟨rfl, bthen HB.out hb9⟩
  case inl =>
  rcases HFB.out with ⟨rfl, M, B, d, hM, hm4, rfl, hrowB, hmd, hnB⟩ | rfl
  case inr =>
    have HB := HB3
    go_wp2_with fail
    refine (alive_any _ (HE.out.keep HB.out)).mono ?_
    rintro e w9 ⟨rfl, hb9⟩
    go_wp2_with fail
    go_ret
    exact ⟨rfl, bthen HB.out hb9⟩
  case inl =>
  have hLU : lexT u = some (L ++ M) := by
    rw [HLU.out]
    exact toks_sep (s := 32) rfl (HLA.out.symm.trans hL) (HLB.out.symm.trans hM)
  rcases HFU.out with ⟨rfl, U, C, d', hU, hu4, rfl, hrowU⟩ | ⟨_, hU⟩
  case inr => rw [hLU] at hU; cases hU
  case inl =>
  obtain rfl : L ++ M = U := Option.some.inj (hLU.symm.trans hU)
  have HRT := Lib.hid (show ∀ t ∈ L, rightT t ∧ t.2.1.size ≤ 1000 from fun t ht => by
    have h := toks_mem _ (dat a) L (Nat.le_refl _) (HLA.out.symm.trans hL) t ht
    have h2 := size_text t
    rw [dat_len, HY.out] at h
    exact ⟨right_of h.1 (by omega), by omega⟩)
  obtain ⟨l, hl⟩ : ∃ l, l = L.length := ⟨_, rfl⟩
  obtain ⟨m, hm⟩ : ∃ m, m = M.length := ⟨_, rfl⟩
  obtain ⟨uu, huu⟩ : ∃ uu, uu = (L ++ M).length := ⟨_, rfl⟩
  have huu2 : uu = l + m := by rw [huu, List.length_append, hl, hm]
  rw [← hl] at hl4 hlc ⊢
  rw [← hm] at hm4 hmd ⊢
  rw [← huu] at hu4 ⊢
  have HL := Lib.hid hl
  have HM := Lib.hid hm
  have HUU := Lib.hid huu
  have HUU2 := Lib.hid huu2
  have HRA := Lib.hid ((hrowA.keep (Nat.le_refl _) HK2.out).keep (Nat.le_refl _) HK3.out)
  have HRB := Lib.hid (hrowB.keep (Nat.le_refl _) HK3.out)
  have HRU := Lib.hid hrowU
  have HNA := Lib.hid hnA
  have HNB := Lib.hid hnB
  clear hL hM hU hLU hl hm huu huu2 hrowA hrowB hrowU hnA hnB
  go_wp2_with fail
  go_loopw [11] (fun i wr => ∃ k : Nat, i = .int .i64 (k : Int) ∧ k ≤ l ∧ Hid (Below w3.heap.size w3 wr)) (fun i _ => l - (intOf i).toNat)
  case atStart => exact ⟨0, rfl, by omega, Lib.hid (Below.refl _ _)⟩
  case round =>
    obtain ⟨k, rfl, hk, HBW⟩ := hrel
    have HBWW := Lib.hid (bthen HB3.out HBW.out)
    by_cases hlt : k < l
    · have hki : (k : Int) < (l : Int) := by omega
      have hk0 : (0 : Int) ≤ (k : Int) := by omega
      have hkL : k < L.length := by have := HL.out; omega
      obtain ⟨b1, o1, rfl, x0, x1, x2⟩ := (HRA.out.keep (Nat.le_refl _) HBW.out).at3 hkL
      obtain ⟨⟨t0, t1, t2⟩, ht⟩ : ∃ t, t = L[k] := ⟨_, rfl⟩
      rw [← ht] at x0 x1 x2
      have HT := Lib.hid (show rightT (t0, t1, t2) ∧ t1.size ≤ 1000 by have h := HRT.out L[k] (List.getElem_mem _); rw [← ht] at h; exact h)
      clear ht hlt
      go_wp2_with fail
      refine (right_any t0 t2 t1 _ (HE.out.keep HBWW.out) HT.out.2 true ⟨fun _ => HT.out.1, fun _ => rfl⟩).mono ?_
      rintro e w5 ⟨rfl, hb5⟩
      have HB5 := Lib.hid (bthen HBW.out hb5)
      clear hb5
      go_wp2_with fail
      go_roundw
      case rel => exact ⟨k + 1, by go_num, by omega, HB5⟩
      case measure => simp [intOf]; omega
    · have hki : ¬ (k : Int) < (l : Int) := by omega
      clear hlt
      go_wp2_with fail
      refine (alive_any _ (HE.out.keep HBWW.out)).mono ?_
      rintro e w6 ⟨rfl, hb6⟩
      have HB6 := Lib.hid (bthen HBWW.out hb6)
      have HK6 := Lib.hid (bthen HBW.out hb6)
      have HRA6 := Lib.hid (HRA.out.keep (Nat.le_refl _) HK6.out)
      have HRB6 := Lib.hid (HRB.out.keep (Nat.le_refl _) HK6.out)
      have HRU6 := Lib.hid (HRU.out.keep (Nat.le_refl _) HK6.out)
      have HO := Lib.hid (own_empty (w := w6) (B := w6.heap.size) (t := 31) (size := 3) (Nat.le_refl _))
      have HB7 := Lib.hid (show Below w6.heap.size w6 (w6.alloc (.cells #[] 31)) from bpush (Below.refl _ _) _)
      clear hb6
      go_wp2_with (at_builtin; refine wpList_append_toks rfl _ _ rfl w6.heap.size (.slice (some ⟨w6.heap.size, 0, none⟩) 0 0) 0 [] rfl A l c L rfl HO.out (HRA6.out.keep (Nat.le_refl _) HB7.out) HL.out hlc HNA.out ?q1 ?q2 ?_)
      case q1 => omega
      case q2 => first | omega | (simp; done) | (simp; omega)
      intro v1 w8 ho8 hg8
      have hb8 : Below w6.heap.size w6 w8 := HB7.out.trans (grown_own3 HO.out hg8 (by first | omega | (simp; done) | (simp; omega)))
      have HB8 := Lib.hid hb8
      have hsz8 : w6.heap.size ≤ w8.heap.size := hb8.size
      have HO8 := Lib.hid (show w8.ownsRow w6.heap.size 31 3 v1 l (cellsT L) by simpa using ho8)
      clear ho8 hg8 hb8
      go_wp2_with (at_builtin; refine wpList_append_toks rfl _ _ rfl w6.heap.size v1 l (cellsT L) rfl B m d M rfl HO8.out (HRB6.out.keep (Nat.le_refl _) HB8.out) HM.out hmd HNB.out ?q3 ?q4 ?_)
      case q3 => omega
      case q4 => first | omega | (simp; done) | (simp; omega)
      intro v2 w10 ho10 hg10
      have hb10 : Below w6.heap.size w6 w10 := HB8.out.trans (grown_own3 HO8.out hg10 hsz8)
      have HB10 := Lib.hid hb10
      rw [← cellsT_app] at ho10
      obtain ⟨hln, D, c10, rfl, r1, r2, r3, r4⟩ := own_slice3 ho10
      have HRD := Lib.hid r1
      have HRU10 := Lib.hid (HRU6.out.keep (Nat.le_refl _) HB10.out)
      have HLN := Lib.hid hln
      clear ho10 hg10 hb10 r1 r4 hln
      go_wp2_with fail
      refine (refsame_any C D uu d' (l + m) c10 (L ++ M) (L ++ M) _ HRU10.out HRD.out HUU.out HLN.out (by omega) (by omega) true ⟨fun _ => rfl, fun _ => rfl⟩).mono ?_
      rintro e w11 ⟨rfl, hb11⟩
      go_wp2_with fail
      go_ret
      exact ⟨rfl, bthen (bthen HB6.out HB10.out) hb11⟩
end Go.Proofs.YtcpbjcemlkohkaaDoor
