/- Choose (14): the cuboids that answer. -/
import Derived.Test.YtgaallkdfcckpaaSJ
import Derived.Test.YtgaallkdfcckpaaSC
import Derived.BigQuiet
namespace Go.Proofs.Ytgaallkdfcckpaa
open Go.RowKit Go.Maps Go.Lib Go.Shelf
set_option linter.unusedSimpArgs false
set_option linter.unusedVariables false
def pickS (el : XZ → Bool) (F : List SZ) (jn : Nat) (x : XZ) : XZ :=
  match (candS F jn x).filter el with
  | [] => x
  | y :: l => minX y l
def chooseS (S : List XZ) (el : XZ → Bool) (pk : XZ → XZ) : List XZ × Int × Int :=
  match S.find? (fun x => !el x) with
  | some x => ([], x.tier, 261)
  | none => (S.map pk, -1, 0)
theorem choose_bad {S : List XZ} {el : XZ → Bool} {pk : XZ → XZ} {k : Nat} (hk : k < S.length) (h : ∀ (j : Nat) (hj : j < S.length), j < k → el S[j] = true) (hb : el S[k] = false) : chooseS S el pk = ([], S[k].tier, 261) := by
  have e : S.find? (fun x => !el x) = some S[k] := by
    have h2 : S = S.take k ++ S[k] :: S.drop (k + 1) := by rw [List.getElem_cons_drop, List.take_append_drop]
    conv => lhs; rw [h2]
    rw [List.find?_append]
    have h3 : (S.take k).find? (fun x => !el x) = none := by
      rw [List.find?_eq_none]
      intro x hx
      obtain ⟨j, hj, rfl⟩ := List.mem_iff_getElem.1 hx
      rw [List.length_take] at hj
      rw [List.getElem_take, h j (by omega) (by omega)]; simp
    rw [h3, List.find?_cons_of_pos (by rw [hb]; rfl)]; rfl
  unfold chooseS
  rw [e]
theorem choose_ok {S : List XZ} {el : XZ → Bool} {pk : XZ → XZ} (h : ∀ x ∈ S, el x = true) : chooseS S el pk = (S.map pk, -1, 0) := by
  have e : S.find? (fun x => !el x) = none := by
    rw [List.find?_eq_none]
    intro x hx
    rw [h x hx]; simp
  unfold chooseS
  rw [e]
def ChP (w : World) (P : List XZ) (t er : Int) (e : Ending) (w' : World) : Prop := ∃ A m c, e = .returned (.tuple #[.slice A m c, .int .i64 t, .int .i64 er]) ∧ m = P.length ∧ Row w' A (cellsX P) ∧ Below w.heap.size w w'
/-- What Choose asks. -/
structure ChOk (w : World) (A : Option Addr) (n c : Nat) (L : List ByteArray) (q : QZ) (p : PZ) (eA : Option Addr) (en : Nat) (E : List Int) (fA : Option Addr) (fn : Nat) (F : List SZ) : Prop where
  u : UseOk w A n c L q
  pi : PIn w p
  e : Row w eA (E.map (Value.int .i64))
  el : en = E.length
  et : p.tn = en
  e20 : en ≤ 100000
  f : Row w fA (cellsS F)
  fl : fn = F.length
  fm : fn ≤ 9223372036854775807
  j20 : p.jn ≤ 10000
theorem ChOk.keep {w w' : World} {B : Nat} {A : Option Addr} {n c : Nat} {L : List ByteArray} {q : QZ} {p : PZ} {eA : Option Addr} {en : Nat} {E : List Int} {fA : Option Addr} {fn : Nat} {F : List SZ} (h : ChOk w A n c L q p eA en E fA fn F) (hB : w.heap.size ≤ B) (hb : Below B w w') : ChOk w' A n c L q p eA en E fA fn F :=
  { h with u := h.u.keep hB hb, pi := h.pi.keep hB hb, e := h.e.keep hB hb, f := h.f.keep hB hb }
def elC (L : List ByteArray) (q : QZ) (p : PZ) : XZ → Bool := eligC (usedQ L q) q.every p
theorem elC_rows (L : List ByteArray) (q : QZ) (p : PZ) (a b c d e f : Int) : elC L q p ⟨a, b, c, d, e⟩ = elC L q p ⟨a, b, c, d, f⟩ := rfl
theorem cand_filter {L : List ByteArray} {q : QZ} {p : PZ} {F : List SZ} {jn : Nat} {x : XZ} (h : elC L q p x = true) : (candS F jn x).filter (elC L q p) = ⟨x.frm, x.upto, x.tier, x.proj, (rowsS F x.tier (-1)).getD 0⟩ :: ((List.range jn).filterMap (candAt F x)).filter (elC L q p) := by
  unfold candS
  rw [List.filter_cons_of_pos (by rw [elC_rows L q p _ _ _ _ _ x.rows]; exact h)]
theorem strS_mem {E : List Int} {fr up : Int} {n : Nat} {x : XZ} (h : x ∈ strS E fr up n) : ∃ i, i < n ∧ x = strAt E fr up i ∧ x.frm < x.upto := by
  unfold strS at h
  obtain ⟨h1, h2⟩ := List.mem_filter.1 h
  obtain ⟨i, hi, rfl⟩ := List.mem_map.1 h1
  exact ⟨i, List.mem_range.1 hi, rfl, of_decide_eq_true h2⟩
theorem cl32 (S P Q : Nat) (A B : Option Addr) (n c m d : Nat) (L : List ByteArray) (q : QZ) (p : PZ) (x : XZ) (w : World) (hu : UseOk w A n c L q) (hp : PIn w p) (hS : Blk w S 24 #[.slice A n c, .slice B m d]) (hP : Blk w P 28 #[.slice p.tA p.tn p.tc, .slice p.jA p.jn p.jc, .int .i64 p.hor]) (hQ : Blk w Q 42 #[.slice q.tA q.tn q.tc, .int .i64 q.frm, .int .i64 q.upto, .int .i64 q.every, .slice q.bA q.bn q.bc, .int .i64 q.f.op, .string q.f.dim, .string q.f.val, .slice q.f.A q.f.n q.f.c, .slice q.hA q.hn q.hc, .int .i64 q.order, .int .i64 q.limit]) :
    Calls Try.prog 32 (#[.agg #[.int .i64 x.frm, .int .i64 x.upto, .int .i64 x.tier, .int .i64 x.proj, .int .i64 x.rows]] ++ #[.pointer (some ⟨S, 0, none⟩), .pointer (some ⟨P, 0, none⟩), .pointer (some ⟨Q, 0, none⟩)]) w fun e w' => e = .returned (.bool (!elC L q p x)) ∧ Below w.heap.size w w' := by
  show Calls Try.prog 32 #[.agg #[.int .i64 x.frm, .int .i64 x.upto, .int .i64 x.tier, .int .i64 x.proj, .int .i64 x.rows], .pointer (some ⟨S, 0, none⟩), .pointer (some ⟨P, 0, none⟩), .pointer (some ⟨Q, 0, none⟩)] w _
  obtain ⟨w1, hw1⟩ : ∃ w1, w1 = w.alloc (.cells #[.int .i64 x.frm, .int .i64 x.upto, .int .i64 x.tier, .int .i64 x.proj, .int .i64 x.rows] 49) := ⟨_, rfl⟩
  have hb1 : Below w.heap.size w w1 := by rw [hw1]; exact bpush (Below.refl _ _) _
  have kX : Blk w1 w.heap.size 49 #[.int .i64 x.frm, .int .i64 x.upto, .int .i64 x.tier, .int .i64 x.proj, .int .i64 x.rows] := by rw [hw1]; exact Blk.new _ _ _
  have HEL := Lib.hid (elig_any A B n c m d L q p x w1 (hu.keep (Nat.le_refl _) hb1) (hp.keep (Nat.le_refl _) hb1))
  obtain ⟨s0, s1⟩ := s_cells (hS.below hb1)
  obtain ⟨p0, p1, p2⟩ := p_cells (hP.below hb1)
  obtain ⟨c0, c1, c2, c3, c4, c5, c6, c7, c8, c9, c10, c11⟩ := q_cells (hQ.below hb1)
  obtain ⟨x0, x1, x2, x3, x4⟩ := xz_cells kX
  obtain ⟨r, hr⟩ : ∃ r, r = elC L q p x := ⟨_, rfl⟩
  have HEL := Lib.hid (show Calls Try.prog 12 #[.agg #[.slice A n c, .slice B m d], .agg #[.slice p.tA p.tn p.tc, .slice p.jA p.jn p.jc, .int .i64 p.hor], .agg #[.slice q.tA q.tn q.tc, .int .i64 q.frm, .int .i64 q.upto, .int .i64 q.every, .slice q.bA q.bn q.bc, .int .i64 q.f.op, .string q.f.dim, .string q.f.val, .slice q.f.A q.f.n q.f.c, .slice q.hA q.hn q.hc, .int .i64 q.order, .int .i64 q.limit], .agg #[.int .i64 x.frm, .int .i64 x.upto, .int .i64 x.tier, .int .i64 x.proj, .int .i64 x.rows]] w1 fun e w' => e = .returned (.bool r) ∧ Below w1.heap.size w1 w' from by rw [hr]; exact HEL.out)
  rw [← hr]
  have HB1 := Lib.hid hb1
  have HW1 := Lib.hid hw1
  obtain ⟨X, hX⟩ : ∃ X, X = w.heap.size := ⟨_, rfl⟩
  rw [← hX] at x0 x1 x2 x3 x4
  have HX := Lib.hid hX
  clear hw1 hb1 kX hr hu hp hS hP hQ hX
  go_enter Try.func32, Try.ntmps32
  go_upto_region 1 with fail
  rw [← HW1.out, ← HX.out]
  cases r
  all_goals
    go_wp2_with (go_at_call 12; refine HEL.out.mono ?_; rintro e w2 ⟨rfl, hb⟩; have HB2 := Lib.hid hb; clear hb)
    go_ret
    exact ⟨rfl, bthen HB1.out HB2.out⟩
set_option maxRecDepth 100000 in
set_option maxHeartbeats 64000000 in
theorem choose_any (A B : Option Addr) (n c m d : Nat) (L : List ByteArray) (q : QZ) (p : PZ) (eA : Option Addr) (en ec : Nat) (E : List Int) (fA : Option Addr) (fn fc : Nat) (F : List SZ) (w : World) (hc : ChOk w A n c L q p eA en E fA fn F) (P : List XZ) (t er : Int) (hP : chooseS (strS E q.frm q.upto en) (elC L q p) (pickS (elC L q p) F p.jn) = (P, t, er)) :
    Calls Try.prog 14 #[.agg #[.slice A n c, .slice B m d], .agg #[.slice p.tA p.tn p.tc, .slice p.jA p.jn p.jc, .int .i64 p.hor], .slice eA en ec, .agg #[.slice q.tA q.tn q.tc, .int .i64 q.frm, .int .i64 q.upto, .int .i64 q.every, .slice q.bA q.bn q.bc, .int .i64 q.f.op, .string q.f.dim, .string q.f.val, .slice q.f.A q.f.n q.f.c, .slice q.hA q.hn q.hc, .int .i64 q.order, .int .i64 q.limit], .slice fA fn fc] w (ChP w P t er) := by
  obtain ⟨wa, hwa⟩ : ∃ wa, wa = w.alloc (.cells #[.slice A n c, .slice B m d] 24) := ⟨_, rfl⟩
  obtain ⟨wb, hwb⟩ : ∃ wb, wb = wa.alloc (.cells #[.slice p.tA p.tn p.tc, .slice p.jA p.jn p.jc, .int .i64 p.hor] 28) := ⟨_, rfl⟩
  obtain ⟨w1, hw1⟩ : ∃ w1, w1 = wb.alloc (.cells #[.slice q.tA q.tn q.tc, .int .i64 q.frm, .int .i64 q.upto, .int .i64 q.every, .slice q.bA q.bn q.bc, .int .i64 q.f.op, .string q.f.dim, .string q.f.val, .slice q.f.A q.f.n q.f.c, .slice q.hA q.hn q.hc, .int .i64 q.order, .int .i64 q.limit] 42) := ⟨_, rfl⟩
  have ba : Below w.heap.size w wa := by rw [hwa]; exact bpush (Below.refl _ _) _
  have bb : Below wa.heap.size wa wb := by rw [hwb]; exact bpush (Below.refl _ _) _
  have bc : Below wb.heap.size wb w1 := by rw [hw1]; exact bpush (Below.refl _ _) _
  have kS : Blk wa w.heap.size 24 #[.slice A n c, .slice B m d] := by rw [hwa]; exact Blk.new _ _ _
  have kP : Blk wb wa.heap.size 28 #[.slice p.tA p.tn p.tc, .slice p.jA p.jn p.jc, .int .i64 p.hor] := by rw [hwb]; exact Blk.new _ _ _
  have kQ : Blk w1 wb.heap.size 42 #[.slice q.tA q.tn q.tc, .int .i64 q.frm, .int .i64 q.upto, .int .i64 q.every, .slice q.bA q.bn q.bc, .int .i64 q.f.op, .string q.f.dim, .string q.f.val, .slice q.f.A q.f.n q.f.c, .slice q.hA q.hn q.hc, .int .i64 q.order, .int .i64 q.limit] := by rw [hw1]; exact Blk.new _ _ _
  have sza : wa.heap.size = w.heap.size + 1 := by rw [hwa]; simp
  have szb : wb.heap.size = w.heap.size + 2 := by rw [hwb]; simp [sza]
  rw [sza] at kP
  rw [szb] at kQ
  have kS := kS.below (bthen bb bc)
  have kP := kP.below bc
  have hb1 : Below w.heap.size w w1 := bthen (bthen ba bb) bc
  have HB1 := Lib.hid hb1
  obtain ⟨S, hSe⟩ : ∃ S, S = w.heap.size := ⟨_, rfl⟩
  obtain ⟨Pb, hPe⟩ : ∃ P, P = w.heap.size + 1 := ⟨_, rfl⟩
  obtain ⟨Q, hQe⟩ : ∃ Q, Q = w.heap.size + 2 := ⟨_, rfl⟩
  rw [← hSe] at kS
  rw [← hPe] at kP
  rw [← hQe] at kQ
  have HK := Lib.hid (And.intro kS (And.intro kP kQ))
  have HCE := Lib.hid (fun W (hW : Below w1.heap.size w1 W) => And.intro (s_cells (HK.out.1.below hW)) (And.intro (p_cells (HK.out.2.1.below hW)) (q_cells (HK.out.2.2.below hW))))
  have HW1 := Lib.hid (show w1 = ((w.alloc (.cells #[.slice A n c, .slice B m d] 24)).alloc (.cells #[.slice p.tA p.tn p.tc, .slice p.jA p.jn p.jc, .int .i64 p.hor] 28)).alloc (.cells #[.slice q.tA q.tn q.tc, .int .i64 q.frm, .int .i64 q.upto, .int .i64 q.every, .slice q.bA q.bn q.bc, .int .i64 q.f.op, .string q.f.dim, .string q.f.val, .slice q.f.A q.f.n q.f.c, .slice q.hA q.hn q.hc, .int .i64 q.order, .int .i64 q.limit] 42) by rw [hw1, hwb, hwa])
  have HE3 := Lib.hid (And.intro hSe (And.intro hPe hQe))
  have HC := Lib.hid (hc.keep (Nat.le_refl _) hb1)
  obtain ⟨Z, hZ⟩ : ∃ Z, Z = strS E q.frm q.upto en := ⟨_, rfl⟩
  rw [← hZ] at hP
  have HSTR := Lib.hid (str_any p q eA en ec E w1 HC.out.e HC.out.el HC.out.et HC.out.e20)
  rw [← hZ] at HSTR
  have HZL := Lib.hid (show Z.length ≤ 100000 by rw [hZ]; have := strS_len E q.frm q.upto en; have := HC.out.e20; omega)
  have HP := Lib.hid hP
  have HELG := Lib.hid (fun (x : XZ) W (hW : Below w1.heap.size w1 W) => show Calls Try.prog 12 #[.agg #[.slice A n c, .slice B m d], .agg #[.slice p.tA p.tn p.tc, .slice p.jA p.jn p.jc, .int .i64 p.hor], .agg #[.slice q.tA q.tn q.tc, .int .i64 q.frm, .int .i64 q.upto, .int .i64 q.every, .slice q.bA q.bn q.bc, .int .i64 q.f.op, .string q.f.dim, .string q.f.val, .slice q.f.A q.f.n q.f.c, .slice q.hA q.hn q.hc, .int .i64 q.order, .int .i64 q.limit], .agg #[.int .i64 x.frm, .int .i64 x.upto, .int .i64 x.tier, .int .i64 x.proj, .int .i64 x.rows]] W fun e w' => e = .returned (.bool (elC L q p x)) ∧ Below W.heap.size W w' from elig_any A B n c m d L q p x W (HC.out.u.keep (Nat.le_refl _) hW) (HC.out.pi.keep (Nat.le_refl _) hW))
  have HCAN := Lib.hid (fun (x : XZ) W (hW : Below w1.heap.size w1 W) => cand_any p x fA fn fc F W (HC.out.f.keep (Nat.le_refl _) hW) HC.out.fl HC.out.fm HC.out.j20)
  have HDEL := Lib.hid (fun (v : Value) (k : Nat) (M : List XZ) W0 W (hW0 : Below w1.heap.size w1 W0) (ho : W.ownsRow W0.heap.size 49 5 v k (cellsX M)) (hb : Below W0.heap.size W0 W) (hk : k ≤ 1000000) => del_any v k 32 #[.pointer (some ⟨S, 0, none⟩), .pointer (some ⟨Pb, 0, none⟩), .pointer (some ⟨Q, 0, none⟩)] (fun x => !elC L q p x) M W0 W ho hb hk (fun _ _ => rfl) (fun W2 hW2 x _ => cl32 S Pb Q A B n c m d L q p x W2 (HC.out.u.keep (Nat.le_refl _) (bthen hW0 hW2)) (HC.out.pi.keep (Nat.le_refl _) (bthen hW0 hW2)) (HK.out.1.below (bthen hW0 hW2)) (HK.out.2.1.below (bthen hW0 hW2)) (HK.out.2.2.below (bthen hW0 hW2))))
  obtain ⟨⟨s0, s1⟩, ⟨p0, p1, p2⟩, ⟨c0, c1, c2, c3, c4, c5, c6, c7, c8, c9, c10, c11⟩⟩ := HCE.out w1 (Below.refl _ _)
  clear hwa hwb hw1 ba bb bc kS kP kQ sza szb hb1 hSe hPe hQe hc hZ hP
  go_enter Try.func14, Try.ntmps14
  go_upto_region 2 with fail
  rw [← HW1.out, ← HE3.out.2.2, ← HE3.out.2.1, ← HE3.out.1]
  go_upto_region 3 with (go_at_call 11; refine HSTR.out.mono ?_; rintro e w2 ⟨v2, rfl, ho2, hb2⟩; have HB2 := Lib.hid hb2; obtain ⟨ZA, zc, rfl, hrz, -, -⟩ := own_sliceX ho2; have HRZ := Lib.hid hrz; clear hb2 ho2 hrz)
  clear s0 s1 p0 p1 p2 c0 c1 c2 c3 c4 c5 c6 c7 c8 c9 c10 c11
  obtain ⟨zn, hzn⟩ : ∃ k, k = Z.length := ⟨_, rfl⟩
  rw [← hzn]
  have HZN := Lib.hid hzn
  have hzn6 : zn ≤ 100000 := by rw [hzn]; exact HZL.out
  clear hzn
  go_loopw [13, 23] (fun v13 vi wr => ∃ (k : Nat) (v : Value), k ≤ zn ∧ vi = .int .i64 k ∧ v = v13 ∧ Hid (∀ (j : Nat) (hj : j < Z.length), j < k → elC L q p Z[j] = true) ∧ Hid (wr.ownsRow w2.heap.size 49 5 v ((Z.take k).map (pickS (elC L q p) F p.jn)).length (cellsX ((Z.take k).map (pickS (elC L q p) F p.jn)))) ∧ Hid (Below w2.heap.size w2 wr)) (fun _ vi _ => zn - (intOf vi).toNat)
  case atStart => exact ⟨0, _, by omega, rfl, rfl, Lib.hid (fun j _ h => by omega), Lib.hid (World.ownsRow_nil _ _ _ _), Lib.hid (Below.refl _ _)⟩
  case round =>
    obtain ⟨k, vv, hk, rfl, rfl, HEK, HO, HBR⟩ := hrel
    obtain ⟨wo, rfl⟩ : ∃ wo : World, wo = wr := ⟨_, rfl⟩
    by_cases hlt : k < zn
    case neg =>
      obtain rfl : k = zn := by omega
      have hge : ¬ (k : Int) < (k : Int) := by omega
      obtain ⟨U, hU⟩ : ∃ U, U = (Z.take k).map (pickS (elC L q p) F p.jn) := ⟨_, rfl⟩
      rw [← hU] at HO
      have HE := Lib.hid (show P = U ∧ t = -1 ∧ er = 0 by
        rw [hU]
        have h := HP.out
        rw [choose_ok (fun x hx => by
          obtain ⟨j, hj, rfl⟩ := List.mem_iff_getElem.1 hx
          exact HEK.out j hj (by have := HZN.out; omega))] at h
        rw [List.take_of_length_le (by have := HZN.out; omega)]
        injection h with h1 h2
        injection h2 with h2 h3
        exact ⟨h1.symm, h2.symm, h3.symm⟩)
      obtain ⟨AO, co, hvo, hro, -, -⟩ := own_sliceX HO.out
      subst hvo
      have HRO := Lib.hid hro
      obtain ⟨hP1, hP2, hP3⟩ := HE.out
      subst hP1 hP2 hP3
      clear hlt hro hU
      go_wp2_with fail
      go_ret3
      exact ⟨AO, _, co, rfl, rfl, HRO.out, bthen HB1.out (bthen HB2.out HBR.out)⟩
    case pos =>
    have hkz : k < Z.length := by have := HZN.out; omega
    have hki : (k : Int) < (zn : Int) := by omega
    have hk0 : (0 : Int) ≤ (k : Int) := by omega
    obtain ⟨b, off, hAe, q0, q1, q2, q3, q4⟩ := x_cells (HRZ.out.keep (Nat.le_refl _) HBR.out) hkz
    obtain ⟨x, hx⟩ : ∃ x, x = Z[k] := ⟨_, rfl⟩
    rw [← hx] at q0 q1 q2 q3 q4
    subst hAe
    obtain ⟨w4, hw4⟩ : ∃ w4, w4 = wo.alloc (.cells #[.int .i64 x.frm, .int .i64 x.upto, .int .i64 x.tier, .int .i64 x.proj, .int .i64 x.rows] 49) := ⟨_, rfl⟩
    have hb4 : Below wo.heap.size wo w4 := by rw [hw4]; exact bpush (Below.refl _ _) _
    have hk4 : Blk w4 wo.heap.size 49 #[.int .i64 x.frm, .int .i64 x.upto, .int .i64 x.tier, .int .i64 x.proj, .int .i64 x.rows] := by rw [hw4]; exact Blk.new _ _ _
    have HB4 := Lib.hid (bthen HBR.out hb4)
    have HO4 := Lib.hid (own_below HO.out hb4)
    have HB14 := Lib.hid (bthen HB2.out HB4.out)
    obtain ⟨X, hX⟩ : ∃ X, X = wo.heap.size := ⟨_, rfl⟩
    rw [← hX] at hk4
    have HK4 := Lib.hid hk4
    have HW4 := Lib.hid hw4
    have HXE := Lib.hid hX
    obtain ⟨el, hel⟩ : ∃ r, r = elC L q p x := ⟨_, rfl⟩
    have HEL := Lib.hid (HELG.out x w4 HB14.out)
    rw [← hel] at HEL
    have HELE := Lib.hid hel
    have HX2 := Lib.hid hx
    clear hx hw4 hb4 hk4 hX hel hlt
    go_upto_region 5 with fail
    rw [← HW4.out, ← HXE.out]
    clear q0 q1 q2 q3 q4
    obtain ⟨⟨s0, s1⟩, ⟨p0, p1, p2⟩, ⟨c0, c1, c2, c3, c4, c5, c6, c7, c8, c9, c10, c11⟩⟩ := HCE.out w4 HB14.out
    obtain ⟨x0, x1, x2, x3, x4⟩ := xz_cells HK4.out
    cases el with
    | false =>
      have HE := Lib.hid (show P = [] ∧ t = x.tier ∧ er = 261 by
        have h := HP.out
        rw [choose_bad hkz HEK.out (by rw [← HX2.out]; exact HELE.out.symm), ← HX2.out] at h
        injection h with h1 h2
        injection h2 with h2 h3
        exact ⟨h1.symm, h2.symm, h3.symm⟩)
      obtain ⟨hP1, hP2, hP3⟩ := HE.out
      subst hP1 hP2 hP3
      go_upto_region 6 with (go_at_call 12; refine HEL.out.mono ?_; rintro e w5 ⟨rfl, hb⟩; have HB5 := Lib.hid hb; clear hb)
      clear s0 s1 p0 p1 p2 c0 c1 c2 c3 c4 c5 c6 c7 c8 c9 c10 c11 x0 x1 x2 x3 x4
      obtain ⟨y0, y1, y2, y3, y4⟩ := xz_cells (HK4.out.below HB5.out)
      go_quiet (fail)
      go_wp2_with fail
      go_ret3
      exact ⟨none, 0, 0, rfl, rfl, .inl rfl, bthen HB1.out (bthen HB14.out (HB5.out.trans (below_drewN (Below.refl _ _) _)))⟩
    | true =>
      go_upto_region 8 with (go_at_call 12; refine HEL.out.mono ?_; rintro e w5 ⟨rfl, hb⟩; have HB5 := Lib.hid hb; clear hb)
      clear s0 s1 p0 p1 p2 c0 c1 c2 c3 c4 c5 c6 c7 c8 c9 c10 c11 x0 x1 x2 x3 x4
      have HB15 := Lib.hid (bthen HB14.out HB5.out)
      obtain ⟨⟨s0, s1⟩, ⟨p0, p1, p2⟩, ⟨c0, c1, c2, c3, c4, c5, c6, c7, c8, c9, c10, c11⟩⟩ := HCE.out w5 HB15.out
      obtain ⟨x0, x1, x2, x3, x4⟩ := xz_cells (HK4.out.below HB5.out)
      have HFL := Lib.hid (cand_filter (F := F) (jn := p.jn) HELE.out.symm)
      have HCL := Lib.hid (show (candS F p.jn x).length ≤ 1000000 by have := candS_len F p.jn x; have := HC.out.j20; omega)
      have HCN := Lib.hid (HCAN.out x w5 HB15.out)
      obtain ⟨M, hM⟩ : ∃ M, M = candS F p.jn x := ⟨_, rfl⟩
      rw [← hM] at HFL HCL HCN
      have HPK := Lib.hid (show pickS (elC L q p) F p.jn x = minX ⟨x.frm, x.upto, x.tier, x.proj, (rowsS F x.tier (-1)).getD 0⟩ (((List.range p.jn).filterMap (candAt F x)).filter (elC L q p)) by
        unfold pickS; rw [← hM, HFL.out])
      have HFB := Lib.hid (show (M.filter fun x => !(fun x => !elC L q p x) x) = M.filter (elC L q p) by congr 1; funext x; simp)
      have HFN := Lib.hid (show (M.filter (elC L q p)).length ≤ 1000000 from Nat.le_trans (List.length_filter_le _ _) HCL.out)
      obtain ⟨h0, hh0⟩ : ∃ h, h = (⟨x.frm, x.upto, x.tier, x.proj, (rowsS F x.tier (-1)).getD 0⟩ : XZ) := ⟨_, rfl⟩
      obtain ⟨T0, hT0⟩ : ∃ T, T = ((List.range p.jn).filterMap (candAt F x)).filter (elC L q p) := ⟨_, rfl⟩
      rw [← hh0, ← hT0] at HPK HFL
      rw [HFL.out] at HFB HFN
      have HSN := Lib.hid (show (Z.take (k + 1)).map (pickS (elC L q p) F p.jn) = (Z.take k).map (pickS (elC L q p) F p.jn) ++ [minX h0 T0] by
        rw [take_snoc Z k hkz, List.map_append, ← HPK.out, HX2.out]; rfl)
      have HUL := Lib.hid (show ((Z.take k).map (pickS (elC L q p) F p.jn)).length ≤ 100000 by rw [List.length_map, List.length_take]; omega)
      obtain ⟨U, hU⟩ : ∃ U, U = (Z.take k).map (pickS (elC L q p) F p.jn) := ⟨_, rfl⟩
      rw [← hU] at HSN HUL HO4
      have HDL := Lib.hid (fun (v : Value) W (ho : W.ownsRow w5.heap.size 49 5 v M.length (cellsX M)) (hb : Below w5.heap.size w5 W) => HDEL.out v M.length M w5 W HB15.out ho hb HCL.out)
      rw [HFB.out] at HDL
      have HMI := Lib.hid (fun (A : Option Addr) (c : Nat) W (hr : Row W A (cellsX (h0 :: T0))) => min_any A (T0.length + 1) c h0 T0 W hr rfl (by have := HFN.out; simpa using this))
      have HEK2 := Lib.hid (show ∀ (j : Nat) (hj : j < Z.length), j < k + 1 → elC L q p Z[j] = true from fun j h hj => by
        rcases Nat.lt_or_ge j k with e | e
        · exact HEK.out j h e
        · obtain rfl : j = k := by omega
          rw [← HX2.out]; exact HELE.out.symm)
      clear hM hh0 hT0 hU
      go_upto_region 9 with (first
        | (go_at_call 34; refine HCN.out.mono ?_; rintro e w6 ⟨v6, rfl, ho6, hb⟩; have HB6 := Lib.hid hb; have HO6 := Lib.hid ho6; clear hb ho6)
        | (go_at_call 33; refine (HDL.out _ _ HO6.out HB6.out).mono ?_; rintro e w7 ⟨A7, m7, k7, rfl, hm7, hr7, hb⟩; have HB7 := Lib.hid hb; have HR7 := Lib.hid hr7; have HM7 := Lib.hid hm7; clear hb hr7 hm7))
      obtain ⟨zl, hzl⟩ : ∃ z, z = T0.length + 1 := ⟨_, rfl⟩
      have HM8 := Lib.hid (show m7 = T0.length + 1 by rw [HM7.out]; simp)
      rw [HM8.out]
      have HB27 := Lib.hid (HB4.out.trans ((bthen HB5.out HB7.out).mono HB4.out.size))
      have HO7 := Lib.hid (own_below HO4.out (bthen HB5.out HB7.out))
      clear s0 s1 p0 p1 p2 c0 c1 c2 c3 c4 c5 c6 c7 c8 c9 c10 c11 x0 x1 x2 x3 x4 hzl
      have HML := Lib.hid (HMI.out A7 k7 w7 HR7.out)
      have HRT := Lib.hid (fun (m : XZ) (W : World) => show Row (W.alloc (.cells (encX m).toArray 49)) (some ⟨W.heap.size, 0, none⟩) (encX m) from Row.made (t := 49) rfl rfl)
      go_upto_region 10 with (first
        | (at_builtin; rw [← HWA.out]; refine app_x rfl _ _ rfl w2.heap.size vv U rfl HOA.out w8.heap.size 1 mm rfl HRA.out HUL.out HZA.out ?_; intro v3 w9 ho3 hg3; have HO3 := Lib.hid ho3; have HB3 := Lib.hid (HBA.out.trans (grown_belowX HOA.out hg3 HZA.out)); clear ho3 hg3)
        | (go_at_call 35; refine HML.out.mono ?_; rintro e w8 ⟨⟨mm, hmm, rfl⟩, hb⟩; have HMM := Lib.hid hmm; have HO8 := Lib.hid (own_below HO7.out hb); have HB28 := Lib.hid (bthen HB27.out hb); obtain ⟨wA, hwA⟩ : ∃ wA, wA = w8.alloc (.cells #[.int .i64 mm.frm, .int .i64 mm.upto, .int .i64 mm.tier, .int .i64 mm.proj, .int .i64 mm.rows] 49) := ⟨_, rfl⟩; have hbA : Below w8.heap.size w8 wA := (by rw [hwA]; exact bpush (Below.refl _ _) _); have HOA := Lib.hid (own_below HO8.out hbA); have HBA := Lib.hid (bthen HB28.out hbA); have HZA := Lib.hid HBA.out.size; have HRA := Lib.hid (show Row wA (some ⟨w8.heap.size, 0, none⟩) (encX mm) by rw [hwA]; exact HRT.out mm w8); have HWA := Lib.hid hwA; clear hb hmm hwA hbA))
      rw [HMM.out] at HO3
      go_wp2_with fail
      go_roundw
      case rel => exact ⟨k + 1, v3, by omega, by go_num, rfl, HEK2, Lib.hid (by rw [HSN.out]; exact HO3.out), HB3⟩
      case measure => simp [intOf]; omega
end Go.Proofs.Ytgaallkdfcckpaa
