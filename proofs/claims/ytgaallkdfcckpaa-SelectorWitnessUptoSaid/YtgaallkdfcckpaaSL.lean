/- The document's Choose (15): mathematics, and the walk. -/
import Derived.Test.YtgaallkdfcckpaaSK
import Derived.Test.YtgaallkdfcckpaaSD
import Derived.BigQuiet
namespace Go.Proofs.Ytgaallkdfcckpaa
open Go.RowKit Go.Maps Go.Lib Go.Shelf
set_option linter.unusedSimpArgs false
set_option linter.unusedVariables false
def jtB (J : List TZ) (k : Nat) (t : Int) : Bool := match J[k]? with | some y => decide (y.x = t) | none => false
def bestStep (el : XZ → Bool) (F : List SZ) (J : List TZ) (x : XZ) (b : XZ) (k : Nat) : XZ :=
  match rowsS F x.tier (k : Int) with
  | none => b
  | some n => if (jtB J k x.tier && decide (n < b.rows) && el ⟨x.frm, x.upto, x.tier, (k : Int), n⟩) = true then ⟨x.frm, x.upto, x.tier, (k : Int), n⟩ else b
def bestS (el : XZ → Bool) (F : List SZ) (J : List TZ) (x : XZ) (m : Nat) : XZ := (List.range m).foldl (bestStep el F J x) ⟨x.frm, x.upto, x.tier, x.proj, (rowsS F x.tier (-1)).getD 0⟩
theorem bestS_succ (el : XZ → Bool) (F : List SZ) (J : List TZ) (x : XZ) (m : Nat) : bestS el F J x (m + 1) = bestStep el F J x (bestS el F J x m) m := by
  unfold bestS
  rw [List.range_succ, List.foldl_append]; rfl
theorem cmpX_neg {y b : XZ} (h : b.proj < y.proj) : cmpX y b < 0 ↔ y.rows < b.rows := by
  unfold cmpX orI cmpI
  have h2 : ¬ y.proj < b.proj := by omega
  by_cases h1 : y.rows < b.rows
  · rw [if_pos h1]; simp [h1]
  · by_cases h3 : b.rows < y.rows
    · rw [if_neg h1, if_pos h3]; simp [h1]
    · rw [if_neg h1, if_neg h3, if_neg h2, if_pos h]; simp [h1]
theorem elC_jt {L : List ByteArray} {q : QZ} {p : PZ} {x : XZ} {k : Nat} {n : Int} (h : elC L q p ⟨x.frm, x.upto, x.tier, (k : Int), n⟩ = true) : jtB p.J k x.tier = true := by
  unfold elC eligC at h
  have hne : ¬ (k : Int) = -1 := by omega
  cases hc : cubC p x.tier (k : Int) with
  | none => simp only [hc] at h; cases h
  | some z =>
    unfold cubC at hc
    obtain ⟨y, h1, h2⟩ := Option.bind_eq_some_iff.1 hc
    rw [if_neg hne] at h2
    obtain ⟨v, h3, h4⟩ := Option.bind_eq_some_iff.1 h2
    unfold atZ at h3
    rw [if_pos (by omega)] at h3
    simp at h3
    unfold jtB
    rw [h3]
    by_cases hv : v.x = x.tier
    · simp [hv]
    · rw [if_neg hv] at h4; cases h4
theorem pick_best {L : List ByteArray} {q : QZ} {p : PZ} {F : List SZ} {x : XZ} (hx : x.proj < 0) (jn : Nat) (h : elC L q p x = true) : pickS (elC L q p) F jn x = bestS (elC L q p) F p.J x jn := by
  unfold pickS
  rw [cand_filter h]
  show minX _ _ = _
  have key : ∀ m : Nat, minX ⟨x.frm, x.upto, x.tier, x.proj, (rowsS F x.tier (-1)).getD 0⟩ (((List.range m).filterMap (candAt F x)).filter (elC L q p)) = bestS (elC L q p) F p.J x m ∧ (bestS (elC L q p) F p.J x m).proj < (m : Int) := by
    intro m
    induction m with
    | zero => exact ⟨rfl, by show x.proj < 0; exact hx⟩
    | succ m ih =>
      obtain ⟨i1, i2⟩ := ih
      rw [bestS_succ, List.range_succ, List.filterMap_append, List.filter_append]
      unfold bestStep
      cases hr : rowsS F x.tier (m : Int) with
      | none =>
        have e : candAt F x m = none := by unfold candAt; rw [hr]; rfl
        simp only [List.filterMap_cons, e, List.filterMap_nil, List.filter_nil, List.append_nil]
        exact ⟨i1, by omega⟩
      | some n =>
        have e : candAt F x m = some ⟨x.frm, x.upto, x.tier, (m : Int), n⟩ := by unfold candAt; rw [hr]; rfl
        simp only [List.filterMap_cons, e, List.filterMap_nil]
        cases he : elC L q p ⟨x.frm, x.upto, x.tier, (m : Int), n⟩ with
        | false =>
          rw [List.filter_cons_of_neg (by rw [he]; simp), List.filter_nil, List.append_nil]
          simp only [Bool.and_false, Bool.false_eq_true, if_false]
          exact ⟨i1, by omega⟩
        | true =>
          rw [List.filter_cons_of_pos he, List.filter_nil, minX_snoc, i1, elC_jt he]
          have hc := cmpX_neg (y := ⟨x.frm, x.upto, x.tier, (m : Int), n⟩) i2
          by_cases hn : n < (bestS (elC L q p) F p.J x m).rows
          · rw [if_pos (hc.2 hn), if_pos (by simp [hn])]
            exact ⟨rfl, by show (m : Int) < _; omega⟩
          · rw [if_neg (fun h => hn (hc.1 h)), if_neg (by simp [hn])]
            exact ⟨rfl, by omega⟩
  exact (key jn).1
/-- What is known of a right policy. -/
structure POk (p : PZ) : Prop where
  tg : ∀ z ∈ p.T, okGran z.g
  jg : ∀ z ∈ p.J, okGran z.g
theorem cub_own {p : PZ} {k : Nat} (h : k < p.T.length) : cubC p (k : Int) (-1) = some p.T[k] := by
  unfold cubC
  rw [atZ_some h]; simp
theorem cub_proj {p : PZ} {k j : Nat} (h : k < p.T.length) (hj : j < p.J.length) (hx : p.J[j].x = (k : Int)) : cubC p (k : Int) (j : Int) = some p.J[j] := by
  unfold cubC
  rw [atZ_some h, atZ_some hj]
  have hne : ¬ (j : Int) = -1 := by omega
  simp [hne, hx]
set_option maxRecDepth 100000 in
set_option maxHeartbeats 64000000 in
theorem rchoose_any (A B : Option Addr) (n c m d : Nat) (L : List ByteArray) (q : QZ) (p : PZ) (eA : Option Addr) (en ec : Nat) (E : List Int) (fA : Option Addr) (fn fc : Nat) (F : List SZ) (w : World) (hc : ChOk w A n c L q p eA en E fA fn F) (hk : POk p) (hev : q.every = 0 ∨ okGran q.every) (P : List XZ) (t er : Int) (hP : chooseS (strS E q.frm q.upto en) (elC L q p) (fun x => bestS (elC L q p) F p.J x p.jn) = (P, t, er)) :
    Calls Try.prog 15 #[.agg #[.slice A n c, .slice B m d], .agg #[.slice p.tA p.tn p.tc, .slice p.jA p.jn p.jc, .int .i64 p.hor], .slice eA en ec, .agg #[.slice q.tA q.tn q.tc, .int .i64 q.frm, .int .i64 q.upto, .int .i64 q.every, .slice q.bA q.bn q.bc, .int .i64 q.f.op, .string q.f.dim, .string q.f.val, .slice q.f.A q.f.n q.f.c, .slice q.hA q.hn q.hc, .int .i64 q.order, .int .i64 q.limit], .slice fA fn fc] w (ChP w P t er) := by
  obtain ⟨wa, hwa⟩ : ∃ wa, wa = w.alloc (.cells #[.slice A n c, .slice B m d] 24) := ⟨_, rfl⟩
  obtain ⟨wb, hwb⟩ : ∃ wb, wb = wa.alloc (.cells #[.slice p.tA p.tn p.tc, .slice p.jA p.jn p.jc, .int .i64 p.hor] 28) := ⟨_, rfl⟩
  obtain ⟨w1, hw1⟩ : ∃ w1, w1 = wb.alloc (.cells #[.slice q.tA q.tn q.tc, .int .i64 q.frm, .int .i64 q.upto, .int .i64 q.every, .slice q.bA q.bn q.bc, .int .i64 q.f.op, .string q.f.dim, .string q.f.val, .slice q.f.A q.f.n q.f.c, .slice q.hA q.hn q.hc, .int .i64 q.order, .int .i64 q.limit] 42) := ⟨_, rfl⟩
  have ba : Below w.heap.size w wa := by rw [hwa]; exact bpush (Below.refl _ _) _
  have bb : Below wa.heap.size wa wb := by rw [hwb]; exact bpush (Below.refl _ _) _
  have bc : Below wb.heap.size wb w1 := by rw [hw1]; exact bpush (Below.refl _ _) _
  have kS : Blk wa w.heap.size 24 #[.slice A n c, .slice B m d] := by rw [hwa]; exact Blk.new _ _ _
  have kP : Blk wb wa.heap.size 28 #[.slice p.tA p.tn p.tc, .slice p.jA p.jn p.jc, .int .i64 p.hor] := by rw [hwb]; exact Blk.new _ _ _
  have kQ : Blk w1 wb.heap.size 42 #[.slice q.tA q.tn q.tc, .int .i64 q.frm, .int .i64 q.upto, .int .i64 q.every, .slice q.bA q.bn q.bc, .int .i64 q.f.op, .string q.f.dim, .string q.f.val, .slice q.f.A q.f.n q.f.c, .slice q.hA q.hn q.hc, .int .i64 q.order, .int .i64 q.limit] := by rw [hw1]; exact Blk.new _ _ _
  have sza : wa.heap.size = w.heap.size + 1 := by rw [hwa]; simp
  have szb : wb.heap.size = w.heap.size + 2 := by rw [hwb]; simp [sza]
  rw [sza] at kP
  rw [szb] at kQ
  have kS := kS.below (bthen bb bc)
  have kP := kP.below bc
  have hb1 : Below w.heap.size w w1 := bthen (bthen ba bb) bc
  have HB1 := Lib.hid hb1
  obtain ⟨S, hSe⟩ : ∃ S, S = w.heap.size := ⟨_, rfl⟩
  obtain ⟨Pb, hPe⟩ : ∃ P, P = w.heap.size + 1 := ⟨_, rfl⟩
  obtain ⟨Q, hQe⟩ : ∃ Q, Q = w.heap.size + 2 := ⟨_, rfl⟩
  rw [← hSe] at kS
  rw [← hPe] at kP
  rw [← hQe] at kQ
  have HK := Lib.hid (And.intro kS (And.intro kP kQ))
  have HCE := Lib.hid (fun W (hW : Below w1.heap.size w1 W) => And.intro (s_cells (HK.out.1.below hW)) (And.intro (p_cells (HK.out.2.1.below hW)) (q_cells (HK.out.2.2.below hW))))
  have HW1 := Lib.hid (show w1 = ((w.alloc (.cells #[.slice A n c, .slice B m d] 24)).alloc (.cells #[.slice p.tA p.tn p.tc, .slice p.jA p.jn p.jc, .int .i64 p.hor] 28)).alloc (.cells #[.slice q.tA q.tn q.tc, .int .i64 q.frm, .int .i64 q.upto, .int .i64 q.every, .slice q.bA q.bn q.bc, .int .i64 q.f.op, .string q.f.dim, .string q.f.val, .slice q.f.A q.f.n q.f.c, .slice q.hA q.hn q.hc, .int .i64 q.order, .int .i64 q.limit] 42) by rw [hw1, hwb, hwa])
  have HE3 := Lib.hid (And.intro hSe (And.intro hPe hQe))
  have HC := Lib.hid (hc.keep (Nat.le_refl _) hb1)
  obtain ⟨Z, hZ⟩ : ∃ Z, Z = strS E q.frm q.upto en := ⟨_, rfl⟩
  rw [← hZ] at hP
  have HSTR := Lib.hid (rstr_any p q eA en ec E w1 HC.out.e HC.out.el HC.out.et HC.out.e20)
  rw [← hZ] at HSTR
  have HZL := Lib.hid (show Z.length ≤ 100000 by rw [hZ]; have := strS_len E q.frm q.upto en; have := HC.out.e20; omega)
  have HZM := Lib.hid (show ∀ x ∈ Z, x.proj = -1 ∧ ∃ i : Nat, i < p.T.length ∧ x.tier = (i : Int) from fun x hx => by
    rw [hZ] at hx
    obtain ⟨i, hi, rfl, -⟩ := strS_mem hx
    exact ⟨rfl, i, by have := HC.out.pi.t.len; have := HC.out.et; omega, rfl⟩)
  have HP := Lib.hid hP
  have HPK := Lib.hid hk
  have HELG := Lib.hid (fun (x : XZ) (z : TZ) (hz : cubC p x.tier x.proj = some z) W (hW : Below w1.heap.size w1 W) => show Calls Try.prog 13 #[.agg #[.slice A n c, .slice B m d], .agg #[.slice p.tA p.tn p.tc, .slice p.jA p.jn p.jc, .int .i64 p.hor], .agg #[.slice q.tA q.tn q.tc, .int .i64 q.frm, .int .i64 q.upto, .int .i64 q.every, .slice q.bA q.bn q.bc, .int .i64 q.f.op, .string q.f.dim, .string q.f.val, .slice q.f.A q.f.n q.f.c, .slice q.hA q.hn q.hc, .int .i64 q.order, .int .i64 q.limit], .agg #[.int .i64 x.frm, .int .i64 x.upto, .int .i64 x.tier, .int .i64 x.proj, .int .i64 x.rows]] W fun e w' => e = .returned (.bool (elC L q p x)) ∧ Below W.heap.size W w' from relig_any A B n c m d L q p x z W (HC.out.u.keep (Nat.le_refl _) hW) (HC.out.pi.keep (Nat.le_refl _) hW) hz (by rcases cubC_mem hz with h | h; exact HPK.out.tg z h; exact HPK.out.jg z h) hev)
  have HROW := Lib.hid (fun (t j : Int) W (hW : Below w1.heap.size w1 W) => rrows_any fA fn fc F t j W (HC.out.f.keep (Nat.le_refl _) hW) HC.out.fl HC.out.fm)
  obtain ⟨jA, hjA⟩ : ∃ y, y = p.jA := ⟨_, rfl⟩
  obtain ⟨jn, hjn⟩ : ∃ y, y = p.jn := ⟨_, rfl⟩
  obtain ⟨jc, hjc⟩ : ∃ y, y = p.jc := ⟨_, rfl⟩
  have HJR := Lib.hid (show Row w1 jA (cellsTZ p.J) by rw [hjA]; exact HC.out.pi.j.row)
  have HJN := Lib.hid (show jn = p.J.length by rw [hjn]; exact HC.out.pi.j.len)
  have hjm : jn ≤ 10000 := by rw [hjn]; exact HC.out.j20
  have HCP := Lib.hid (fun W (hW : Below w1.heap.size w1 W) => show W.cell? ⟨Pb, 1, none⟩ = some (.slice jA jn jc) from by rw [hjA, hjn, hjc]; exact (HCE.out W hW).2.1.2.1)
  rw [← hjn] at hP
  have HP := Lib.hid hP
  obtain ⟨⟨s0, s1⟩, ⟨p0, p1, p2⟩, ⟨c0, c1, c2, c3, c4, c5, c6, c7, c8, c9, c10, c11⟩⟩ := HCE.out w1 (Below.refl _ _)
  clear hwa hwb hw1 ba bb bc kS kP kQ sza szb hb1 hSe hPe hQe hc hZ hP hk hev hjA hjn hjc
  go_enter Try.func15, Try.ntmps15
  go_upto_region 1 with fail
  rw [← HW1.out, ← HE3.out.2.2, ← HE3.out.2.1, ← HE3.out.1]
  go_upto_region 4 with (go_at_call 9; refine HSTR.out.mono ?_; rintro e w2 ⟨v2, rfl, ho2, hb2⟩; have HB2 := Lib.hid hb2; obtain ⟨ZA, zc, rfl, hrz, -, -⟩ := own_sliceX ho2; have HRZ := Lib.hid hrz; clear hb2 ho2 hrz)
  clear s0 s1 p0 p1 p2 c0 c1 c2 c3 c4 c5 c6 c7 c8 c9 c10 c11
  obtain ⟨zn, hzn⟩ : ∃ k, k = Z.length := ⟨_, rfl⟩
  rw [← hzn]
  have HZN := Lib.hid hzn
  have hzn6 : zn ≤ 100000 := by rw [hzn]; exact HZL.out
  obtain ⟨pk, hpk⟩ : ∃ f, f = (fun x => bestS (elC L q p) F p.J x jn) := ⟨_, rfl⟩
  rw [← hpk] at HP
  have HPKE := Lib.hid hpk
  clear hzn hpk
  go_loopw [14, 15] (fun v14 vi wr => ∃ (k : Nat) (v : Value), k ≤ zn ∧ vi = .int .i64 k ∧ v = v14 ∧ Hid (∀ (j : Nat) (hj : j < Z.length), j < k → elC L q p Z[j] = true) ∧ Hid (wr.ownsRow w2.heap.size 49 5 v ((Z.take k).map pk).length (cellsX ((Z.take k).map pk))) ∧ Hid (Below w2.heap.size w2 wr)) (fun _ vi _ => zn - (intOf vi).toNat)
  case atStart => exact ⟨0, _, by omega, rfl, rfl, Lib.hid (fun j _ h => by omega), Lib.hid (World.ownsRow_nil _ _ _ _), Lib.hid (Below.refl _ _)⟩
  case round =>
    obtain ⟨k, vv, hk, rfl, rfl, HEK, HO, HBR⟩ := hrel
    obtain ⟨wo, rfl⟩ : ∃ wo : World, wo = wr := ⟨_, rfl⟩
    by_cases hlt : k < zn
    case neg =>
      obtain rfl : k = zn := by omega
      have hge : ¬ (k : Int) < (k : Int) := by omega
      obtain ⟨U, hU⟩ : ∃ U, U = (Z.take k).map pk := ⟨_, rfl⟩
      rw [← hU] at HO
      have HE := Lib.hid (show P = U ∧ t = -1 ∧ er = 0 by
        rw [hU]
        have h := HP.out
        rw [choose_ok (fun x hx => by
          obtain ⟨j, hj, rfl⟩ := List.mem_iff_getElem.1 hx
          exact HEK.out j hj (by have := HZN.out; omega))] at h
        rw [List.take_of_length_le (by have := HZN.out; omega)]
        injection h with h1 h2
        injection h2 with h2 h3
        exact ⟨h1.symm, h2.symm, h3.symm⟩)
      obtain ⟨AO, co, hvo, hro, -, -⟩ := own_sliceX HO.out
      subst hvo
      have HRO := Lib.hid hro
      obtain ⟨hP1, hP2, hP3⟩ := HE.out
      subst hP1 hP2 hP3
      clear hlt hro hU
      go_wp2_with fail
      go_ret3
      exact ⟨AO, _, co, rfl, rfl, HRO.out, bthen HB1.out (bthen HB2.out HBR.out)⟩
    case pos =>
    have hkz : k < Z.length := by have := HZN.out; omega
    have hki : (k : Int) < (zn : Int) := by omega
    have hk0 : (0 : Int) ≤ (k : Int) := by omega
    obtain ⟨b, off, hAe, q0, q1, q2, q3, q4⟩ := x_cells (HRZ.out.keep (Nat.le_refl _) HBR.out) hkz
    obtain ⟨x, hx⟩ : ∃ x, x = Z[k] := ⟨_, rfl⟩
    rw [← hx] at q0 q1 q2 q3 q4
    subst hAe
    have HXR := Lib.hid (fun W (hW : Below wo.heap.size wo W) => And.intro (cell_on hW q0) (And.intro (cell_on hW q1) (And.intro (cell_on hW q2) (And.intro (cell_on hW q3) (cell_on hW q4)))))
    obtain ⟨w4, hw4⟩ : ∃ w4, w4 = wo.alloc (.cells #[.int .i64 x.frm, .int .i64 x.upto, .int .i64 x.tier, .int .i64 x.proj, .int .i64 x.rows] 49) := ⟨_, rfl⟩
    have hb4 : Below wo.heap.size wo w4 := by rw [hw4]; exact bpush (Below.refl _ _) _
    have hk4 : Blk w4 wo.heap.size 49 #[.int .i64 x.frm, .int .i64 x.upto, .int .i64 x.tier, .int .i64 x.proj, .int .i64 x.rows] := by rw [hw4]; exact Blk.new _ _ _
    have HB4 := Lib.hid (bthen HBR.out hb4)
    have HBO4 := Lib.hid hb4
    have HO4 := Lib.hid (own_below HO.out hb4)
    have HB14 := Lib.hid (bthen HB2.out HB4.out)
    have HNX := Lib.hid (own_ltX HO.out (Nat.le_refl wo.heap.size))
    obtain ⟨X, hX⟩ : ∃ X, X = wo.heap.size := ⟨_, rfl⟩
    rw [← hX] at hk4 HNX
    have HXG := Lib.hid (show wo.heap.size ≤ X ∧ w2.heap.size ≤ X by rw [hX]; exact ⟨Nat.le_refl _, HBR.out.size⟩)
    have HK4 := Lib.hid hk4
    have HW4 := Lib.hid hw4
    have HXE := Lib.hid hX
    have hxm : x ∈ Z := by rw [hx]; exact List.getElem_mem _
    have hxj : x.proj = -1 := (HZM.out x hxm).1
    obtain ⟨ti, hti, htx⟩ := (HZM.out x hxm).2
    have HTX := Lib.hid (And.intro hxj (And.intro hti htx))
    have HELG0 := Lib.hid (HELG.out x p.T[ti] (by rw [hxj, htx]; exact cub_own hti))
    obtain ⟨el, hel⟩ : ∃ r, r = elC L q p x := ⟨_, rfl⟩
    have HEL := Lib.hid (HELG0.out w4 HB14.out)
    rw [← hel] at HEL
    have HELE := Lib.hid hel
    have HX2 := Lib.hid hx
    clear hx hw4 hb4 hk4 hX hel hlt hxm hxj hti htx
    go_upto_region 7 with fail
    rw [← HW4.out, ← HXE.out]
    obtain ⟨⟨s0, s1⟩, ⟨p0, p1, p2⟩, ⟨c0, c1, c2, c3, c4, c5, c6, c7, c8, c9, c10, c11⟩⟩ := HCE.out w4 HB14.out
    obtain ⟨x0, x1, x2, x3, x4⟩ := xz_cells HK4.out
    clear q0 q1 q2 q3 q4
    cases el with
    | false =>
      have HE := Lib.hid (show P = [] ∧ t = x.tier ∧ er = 261 by
        have h := HP.out
        rw [choose_bad hkz HEK.out (by rw [← HX2.out]; exact HELE.out.symm), ← HX2.out] at h
        injection h with h1 h2
        injection h2 with h2 h3
        exact ⟨h1.symm, h2.symm, h3.symm⟩)
      obtain ⟨hP1, hP2, hP3⟩ := HE.out
      subst hP1 hP2 hP3
      go_upto_region 9 with (go_at_call 13; refine HEL.out.mono ?_; rintro e w5 ⟨rfl, hb⟩; have HB5 := Lib.hid hb; clear hb)
      clear s0 s1 p0 p1 p2 c0 c1 c2 c3 c4 c5 c6 c7 c8 c9 c10 c11 x0 x1 x2 x3 x4
      obtain ⟨q0, q1, q2, q3, q4⟩ := HXR.out w5 (bthen HBO4.out HB5.out)
      go_quiet (fail)
      go_wp2_with fail
      go_ret3
      exact ⟨none, 0, 0, rfl, rfl, .inl rfl, bthen HB1.out (bthen HB14.out (HB5.out.trans (below_drewN (Below.refl _ _) _)))⟩
    | true =>
      go_upto_region 10 with (go_at_call 13; refine HEL.out.mono ?_; rintro e w5 ⟨rfl, hb⟩; have HB5 := Lib.hid hb; clear hb)
      clear s0 s1 p0 p1 p2 c0 c1 c2 c3 c4 c5 c6 c7 c8 c9 c10 c11 x0 x1 x2 x3 x4
      have HK5 := Lib.hid (HK4.out.below HB5.out)
      have HB15 := Lib.hid (bthen HB14.out HB5.out)
      have HO5 := Lib.hid (own_below HO4.out HB5.out)
      obtain ⟨x0, x1, x2, x3, x4⟩ := xz_cells HK5.out
      have f4 := HK5.out.frozen 4
      have HR0 := Lib.hid (HROW.out x.tier (-1) w5 HB15.out)
      obtain ⟨o0, ho0⟩ : ∃ o, o = (rowsS F x.tier (-1)).getD 0 := ⟨_, rfl⟩
      obtain ⟨b0, hb0⟩ : ∃ o, o = (rowsS F x.tier (-1)).isSome := ⟨_, rfl⟩
      rw [← ho0, ← hb0] at HR0
      have HBS0 := Lib.hid (show bestS (elC L q p) F p.J x 0 = ⟨x.frm, x.upto, x.tier, x.proj, o0⟩ by rw [ho0]; rfl)
      clear ho0 hb0
      go_upto_region 12 with (go_at_call 39; refine HR0.out.mono ?_; rintro e w6 ⟨rfl, rfl⟩)
      obtain ⟨w7, hw7⟩ : ∃ w7, w7 = w5.setCell ⟨X, 4, none⟩ (.int .i64 o0) := ⟨_, rfl⟩
      have HK7 := Lib.hid (show Blk w7 X 49 #[.int .i64 x.frm, .int .i64 x.upto, .int .i64 x.tier, .int .i64 x.proj, .int .i64 o0] by
        have := HK5.out.set_ 4 (.int .i64 o0)
        rw [hw7]
        simpa using this)
      have HB7 := Lib.hid (show Below w2.heap.size w2 w7 by rw [hw7]; exact bset (HB4.out.trans (HB5.out.mono HB4.out.size)) HXG.out.2 _)
      have HBO7 := Lib.hid (show Below wo.heap.size wo w7 by rw [hw7]; exact bset (bthen HBO4.out HB5.out) HXG.out.1 _)
      have HO7 := Lib.hid (show w7.ownsRow w2.heap.size 49 5 vv ((Z.take k).map pk).length (cellsX ((Z.take k).map pk)) by rw [hw7]; exact own_farX (cs := #[]) HO5.out HNX.out _)
      rw [← hw7]
      clear hw7 x0 x1 x2 x3 x4 f4
      have hcp := HCP.out w7 (bthen HB2.out HB7.out)
      obtain ⟨bz, hbz0⟩ : ∃ bz, bz = (⟨x.frm, x.upto, x.tier, x.proj, o0⟩ : XZ) := ⟨_, rfl⟩
      have HK70 := Lib.hid (show Blk w7 X 49 #[.int .i64 bz.frm, .int .i64 bz.upto, .int .i64 bz.tier, .int .i64 bz.proj, .int .i64 bz.rows] by rw [hbz0]; exact HK7.out)
      have HBS00 := Lib.hid (show bz = bestS (elC L q p) F p.J x 0 by rw [hbz0, HBS0.out])
      clear hbz0
      go_upto_region 13 with fail
      go_loopw [20] (fun vj wr => ∃ (j : Nat) (bb : XZ), j ≤ jn ∧ vj = .int .i64 j ∧ Hid (bb = bestS (elC L q p) F p.J x j) ∧ Hid (Blk wr X 49 #[.int .i64 bb.frm, .int .i64 bb.upto, .int .i64 bb.tier, .int .i64 bb.proj, .int .i64 bb.rows]) ∧ Hid (Below wo.heap.size wo wr) ∧ Hid (wr.ownsRow w2.heap.size 49 5 vv ((Z.take k).map pk).length (cellsX ((Z.take k).map pk))) ∧ Hid (Below w2.heap.size w2 wr)) (fun vj _ => jn - (intOf vj).toNat)
      case atStart => exact ⟨0, bz, by omega, rfl, HBS00, HK70, HBO7, HO7, HB7⟩
      case round =>
        obtain ⟨j, bb, hj, rfl, HBB, HKX, HBO, HOW, HBW⟩ := hrel
        obtain ⟨wi, rfl⟩ : ∃ wi : World, wi = wr := ⟨_, rfl⟩
        clear hcp
        have hcp := HCP.out wi (bthen HB2.out HBW.out)
        obtain ⟨b0', hb0'⟩ := xz_cells HKX.out |>.2.2.2
        by_cases hltj : j < jn
        case neg =>
          obtain rfl : j = jn := by omega
          have hgej : ¬ (j : Int) < (j : Int) := by omega
          have HPX := Lib.hid (show pk x = bb by rw [HPKE.out, HBB.out])
          have HSN := Lib.hid (show (Z.take (k + 1)).map pk = (Z.take k).map pk ++ [bb] by
            rw [take_snoc Z k hkz, List.map_append, ← HPX.out, HX2.out]; rfl)
          have HUL := Lib.hid (show ((Z.take k).map pk).length ≤ 100000 by rw [List.length_map, List.length_take]; omega)
          have HEK2 := Lib.hid (show ∀ (j : Nat) (hj : j < Z.length), j < k + 1 → elC L q p Z[j] = true from fun j h hj => by
            rcases Nat.lt_or_ge j k with e | e
            · exact HEK.out j h e
            · obtain rfl : j = k := by omega
              rw [← HX2.out]; exact HELE.out.symm)
          obtain ⟨U, hU⟩ : ∃ U, U = (Z.take k).map pk := ⟨_, rfl⟩
          rw [← hU] at HSN HUL HOW
          obtain ⟨y0, y1, y2, y3, y4⟩ := xz_cells HKX.out
          obtain ⟨wA, hwA⟩ : ∃ wA, wA = wi.alloc (.cells #[.int .i64 bb.frm, .int .i64 bb.upto, .int .i64 bb.tier, .int .i64 bb.proj, .int .i64 bb.rows] 49) := ⟨_, rfl⟩
          have hbA : Below wi.heap.size wi wA := by rw [hwA]; exact bpush (Below.refl _ _) _
          have HOA := Lib.hid (own_below HOW.out hbA)
          have HBA := Lib.hid (bthen HBW.out hbA)
          have HZA := Lib.hid HBA.out.size
          have HRA := Lib.hid (show Row wA (some ⟨wi.heap.size, 0, none⟩) (encX bb) by rw [hwA]; exact Row.made (t := 49) rfl rfl)
          have HWA := Lib.hid hwA
          clear hltj hwA hbA hU hb0'
          go_wp2_with (at_builtin; rw [← HWA.out]; refine app_x rfl _ _ rfl w2.heap.size vv U rfl HOA.out wi.heap.size 1 bb rfl HRA.out HUL.out HZA.out ?_; intro v3 w9 ho3 hg3; have HO3 := Lib.hid ho3; have HB3 := Lib.hid (HBA.out.trans (grown_belowX HOA.out hg3 HZA.out)); clear ho3 hg3)
          go_roundw
          case rel => exact ⟨k + 1, v3, by omega, by go_num, rfl, HEK2, Lib.hid (by rw [HSN.out]; exact HO3.out), HB3⟩
          case measure => simp [intOf]; omega
        case pos =>
        clear hb0'
        have hjz : j < p.J.length := by have := HJN.out; omega
        have hji : (j : Int) < (jn : Int) := by omega
        have hj0 : (0 : Int) ≤ (j : Int) := by omega
        obtain ⟨q0, q1, q2, q3, q4⟩ := HXR.out wi HBO.out
        obtain ⟨wy, hwy⟩ : ∃ wy, wy = wi.alloc (.cells #[.int .i64 x.frm, .int .i64 x.upto, .int .i64 x.tier, .int .i64 x.proj, .int .i64 x.rows] 49) := ⟨_, rfl⟩
        have hby : Below wi.heap.size wi wy := by rw [hwy]; exact bpush (Below.refl _ _) _
        have hky : Blk wy wi.heap.size 49 #[.int .i64 x.frm, .int .i64 x.upto, .int .i64 x.tier, .int .i64 x.proj, .int .i64 x.rows] := by rw [hwy]; exact Blk.new _ _ _
        obtain ⟨Y, hY⟩ : ∃ Y, Y = wi.heap.size := ⟨_, rfl⟩
        rw [← hY] at hky
        have HYG := Lib.hid (show wi.heap.size ≤ Y ∧ X ≠ Y by rw [hY]; exact ⟨Nat.le_refl _, by have := HKX.out.lt; omega⟩)
        have HBY := Lib.hid hby
        have HKY := Lib.hid hky
        have HWY := Lib.hid hwy
        have HYE := Lib.hid hY
        clear hwy hby hky hY hltj
        go_upto_region 16 with fail
        rw [← HWY.out, ← HYE.out]
        clear q0 q1 q2 q3 q4
        have f3 := HKY.out.frozen 3
        have y3 := (xz_cells HKY.out).2.2.2.1
        go_upto_region 17 with fail
        obtain ⟨wz, hwz⟩ : ∃ wz, wz = wy.setCell ⟨Y, 3, none⟩ (.int .i64 (j : Int)) := ⟨_, rfl⟩
        have HKZ := Lib.hid (show Blk wz Y 49 #[.int .i64 x.frm, .int .i64 x.upto, .int .i64 x.tier, .int .i64 (j : Int), .int .i64 x.rows] by
          have := HKY.out.set_ 3 (.int .i64 (j : Int))
          rw [hwz]
          simpa using this)
        have HBZ := Lib.hid (show Below wi.heap.size wi wz by rw [hwz]; exact bset HBY.out HYG.out.1 _)
        rw [← hwz]
        clear hwz f3 y3
        have z0 := HKZ.out.cell 0
        have z1 := HKZ.out.cell 1
        have z2 := HKZ.out.cell 2
        have z3 := HKZ.out.cell 3
        have z4 := HKZ.out.cell 4
        have f4 := HKZ.out.frozen 4
        simp at z0 z1 z2 z3 z4
        have HRJ := Lib.hid (HROW.out x.tier (j : Int) wz (bthen HB2.out (HBW.out.trans (HBZ.out.mono HBW.out.size))))
        obtain ⟨o, ho⟩ : ∃ o, o = rowsS F x.tier (j : Int) := ⟨_, rfl⟩
        rw [← ho] at HRJ
        obtain ⟨nn, hnn⟩ : ∃ v, v = o.getD 0 := ⟨_, rfl⟩
        obtain ⟨is, his⟩ : ∃ v, v = o.isSome := ⟨_, rfl⟩
        rw [← hnn, ← his] at HRJ
        have HOE := Lib.hid (And.intro ho (And.intro hnn his))
        have HSUC := Lib.hid (show bestS (elC L q p) F p.J x (j + 1) = if (is && jtB p.J j x.tier && decide (nn < bb.rows) && elC L q p ⟨x.frm, x.upto, x.tier, (j : Int), nn⟩) = true then ⟨x.frm, x.upto, x.tier, (j : Int), nn⟩ else bb by
          rw [bestS_succ, ← HBB.out]
          unfold bestStep
          rw [hnn, his]
          cases o with
          | none => rw [← ho]; simp
          | some n => rw [← ho]; simp)
        clear ho hnn his
        go_upto_region 18 with (go_at_call 39; refine HRJ.out.mono ?_; rintro e w8 ⟨rfl, rfl⟩)
        go_upto_region 19 with fail
        obtain ⟨wv, hwv⟩ : ∃ wv, wv = wz.setCell ⟨Y, 4, none⟩ (.int .i64 nn) := ⟨_, rfl⟩
        have HKV := Lib.hid (show Blk wv Y 49 #[.int .i64 x.frm, .int .i64 x.upto, .int .i64 x.tier, .int .i64 (j : Int), .int .i64 nn] by
          have := HKZ.out.set_ 4 (.int .i64 nn)
          rw [hwv]
          simpa using this)
        have HBV := Lib.hid (show Below wi.heap.size wi wv by rw [hwv]; exact bset HBZ.out HYG.out.1 _)
        rw [← hwv]
        clear hwv z0 z1 z2 z3 z4 f4 hcp
        have hcp := HCP.out wv (bthen HB2.out (HBW.out.trans (HBV.out.mono HBW.out.size)))
        have HKXV := Lib.hid (HKX.out.below HBV.out)
        have HOV := Lib.hid (own_below HOW.out HBV.out)
        have HBW2 := Lib.hid (bthen HBW.out HBV.out)
        have HBO2 := Lib.hid (bthen HBO.out HBV.out)
        obtain ⟨v0, v1, v2, v3, v4⟩ := xz_cells HKXV.out
        have z0 := HKV.out.cell 0
        have z1 := HKV.out.cell 1
        have z2 := HKV.out.cell 2
        have z3 := HKV.out.cell 3
        have z4 := HKV.out.cell 4
        simp at z0 z1 z2 z3 z4
        obtain ⟨jb, jo, hAe, r0, r1, r2⟩ := tz_cells (HJR.out.keep (Nat.le_refl _) (bthen HB2.out HBW2.out)) hjz
        subst hAe
        obtain ⟨jx, hjx⟩ : ∃ y, y = (p.J[j]'hjz).x := ⟨_, rfl⟩
        rw [← hjx] at r0
        obtain ⟨xt, hxt⟩ : ∃ y, y = x.tier := ⟨_, rfl⟩
        rw [← hxt] at z2
        have HJT := Lib.hid (show jtB p.J j x.tier = decide (jx = xt) by unfold jtB; rw [List.getElem?_eq_getElem hjz, hjx, hxt])
        obtain ⟨br, hbr⟩ : ∃ y, y = bb.rows := ⟨_, rfl⟩
        rw [← hbr] at v4 HSUC
        have HXT := Lib.hid (And.intro hxt (And.intro hbr hjx))
        clear hjx hxt hbr r1 r2
        rw [HJT.out] at HSUC
        by_cases h1 : jx = xt
        case neg =>
          have h1b : (jx != xt) = true := by simp [h1]
          have HE := Lib.hid (show bb = bestS (elC L q p) F p.J x (j + 1) by rw [HSUC.out, decide_eq_false h1]; simp)
          clear h1
          go_quiet (fail)
          go_wp2_with fail
          go_roundw
          case rel => exact ⟨j + 1, bb, by omega, by go_num, HE, Lib.hid HKXV.out, Lib.hid (below_drewN HBO2.out _), Lib.hid (own_dr HOV.out _), Lib.hid (below_drewN HBW2.out _)⟩
          case measure => simp [intOf]; omega
        case pos =>
        have h1b : (jx != xt) = false := by simp [h1]
        have HTR := Lib.hid (show decide (jx = xt) = true by simp [h1])
        rw [HTR.out] at HSUC
        cases is with
        | false =>
          have HE := Lib.hid (show bb = bestS (elC L q p) F p.J x (j + 1) by rw [HSUC.out]; simp)
          clear h1 HTR
          go_quiet (fail)
          go_wp2_with fail
          go_roundw
          case rel => exact ⟨j + 1, bb, by omega, by go_num, HE, Lib.hid HKXV.out, Lib.hid (below_drewN HBO2.out _), Lib.hid (own_dr HOV.out _), Lib.hid (below_drewN HBW2.out _)⟩
          case measure => simp [intOf]; omega
        | true =>
        by_cases h2 : br ≤ nn
        case pos =>
          have h2b : decide (br ≤ nn) = true := by simp [h2]
          have HE := Lib.hid (show bb = bestS (elC L q p) F p.J x (j + 1) by rw [HSUC.out, decide_eq_false (show ¬ nn < br by omega)]; simp)
          clear h1 HTR h2
          go_quiet (fail)
          go_wp2_with fail
          go_roundw
          case rel => exact ⟨j + 1, bb, by omega, by go_num, HE, Lib.hid HKXV.out, Lib.hid (below_drewN HBO2.out _), Lib.hid (own_dr HOV.out _), Lib.hid (below_drewN HBW2.out _)⟩
          case measure => simp [intOf]; omega
        case neg =>
        have h2b : decide (br ≤ nn) = false := by simp [h2]
        rw [decide_eq_true (show nn < br by omega)] at HSUC
        obtain ⟨x', hx'⟩ : ∃ y, y = (⟨x.frm, x.upto, x.tier, (j : Int), nn⟩ : XZ) := ⟨_, rfl⟩
        have HXP := Lib.hid hx'
        have HELX := Lib.hid (HELG.out ⟨x.frm, x.upto, x.tier, (j : Int), nn⟩ (p.J[j]'hjz) (by
          obtain ⟨hxj, hti, htx⟩ := HTX.out
          show cubC p x.tier (j : Int) = _
          rw [htx]
          exact cub_proj hti hjz (by rw [← htx, ← HXT.out.1, ← HXT.out.2.2]; exact h1)))
        obtain ⟨el2, hel2⟩ : ∃ r, r = elC L q p ⟨x.frm, x.upto, x.tier, (j : Int), nn⟩ := ⟨_, rfl⟩
        rw [← hel2] at HSUC
        have HEL2 := Lib.hid (fun W (hW : Below w1.heap.size w1 W) => show Calls Try.prog 13 #[.agg #[.slice A n c, .slice B m d], .agg #[.slice p.tA p.tn p.tc, .slice p.jA p.jn p.jc, .int .i64 p.hor], .agg #[.slice q.tA q.tn q.tc, .int .i64 q.frm, .int .i64 q.upto, .int .i64 q.every, .slice q.bA q.bn q.bc, .int .i64 q.f.op, .string q.f.dim, .string q.f.val, .slice q.f.A q.f.n q.f.c, .slice q.hA q.hn q.hc, .int .i64 q.order, .int .i64 q.limit], .agg #[.int .i64 x.frm, .int .i64 x.upto, .int .i64 x.tier, .int .i64 (j : Int), .int .i64 nn]] W fun e w' => e = .returned (.bool el2) ∧ Below W.heap.size W w' from by rw [hel2]; exact HELX.out W hW)
        subst h1
        clear h2 hel2 hx' HTR v0 v1 v2 v3
        go_quiet (fail)
        obtain ⟨wq, hwq⟩ : ∃ wq, wq = wv.drewN nq := ⟨_, rfl⟩
        have hbq : Below wv.heap.size wv wq := by rw [hwq]; exact below_drewN (Below.refl _ _) _
        have HKQ := Lib.hid (HKV.out.below hbq)
        have HKXQ := Lib.hid (HKXV.out.below hbq)
        have HOQ := Lib.hid (own_below HOV.out hbq)
        have HBWQ := Lib.hid (bthen HBW2.out hbq)
        have HBOQ := Lib.hid (bthen HBO2.out hbq)
        rw [← hwq]
        clear hwq hbq hcp z0 z1 z2 z3 z4 v4 r0
        have z0 := HKQ.out.cell 0
        have z1 := HKQ.out.cell 1
        have z2 := HKQ.out.cell 2
        have z3 := HKQ.out.cell 3
        have z4 := HKQ.out.cell 4
        simp at z0 z1 z2 z3 z4
        obtain ⟨⟨s0, s1⟩, ⟨p0, p1, p2⟩, ⟨c0, c1, c2, c3, c4, c5, c6, c7, c8, c9, c10, c11⟩⟩ := HCE.out wq (bthen HB2.out HBWQ.out)
        have HELQ := Lib.hid (HEL2.out wq (bthen HB2.out HBWQ.out))
        cases el2 with
        | false =>
          have HE := Lib.hid (show bb = bestS (elC L q p) F p.J x (j + 1) by rw [HSUC.out]; simp)
          go_wp2_with (go_at_call 13; refine HELQ.out.mono ?_; rintro e wf ⟨rfl, hb⟩; have HBF := Lib.hid hb; clear hb)
          go_roundw
          case rel => exact ⟨j + 1, bb, by omega, by go_num, HE, Lib.hid (HKXQ.out.below HBF.out), Lib.hid (bthen HBOQ.out HBF.out), Lib.hid (own_below HOQ.out HBF.out), Lib.hid (bthen HBWQ.out HBF.out)⟩
          case measure => simp [intOf]; omega
        | true =>
          have HE := Lib.hid (show x' = bestS (elC L q p) F p.J x (j + 1) by rw [HSUC.out, HXP.out]; simp)
          go_upto_region 22 with (go_at_call 13; refine HELQ.out.mono ?_; rintro e wf ⟨rfl, hb⟩; have HBF := Lib.hid hb; clear hb)
          clear z0 z1 z2 z3 z4 s0 s1 p0 p1 p2 c0 c1 c2 c3 c4 c5 c6 c7 c8 c9 c10 c11
          have HKF := Lib.hid (HKQ.out.below HBF.out)
          have HKXF := Lib.hid (HKXQ.out.below HBF.out)
          have z0 := HKF.out.cell 0
          have z1 := HKF.out.cell 1
          have z2 := HKF.out.cell 2
          have z3 := HKF.out.cell 3
          have z4 := HKF.out.cell 4
          simp at z0 z1 z2 z3 z4
          obtain ⟨v0, v1, v2, v3, v4⟩ := xz_cells HKXF.out
          have f0 := HKXF.out.frozen 0
          have f1 := HKXF.out.frozen 1
          have f2 := HKXF.out.frozen 2
          have f3 := HKXF.out.frozen 3
          have f4 := HKXF.out.frozen 4
          have HFX := Lib.hid (show Blk (((((wf.setCell ⟨X, 0, none⟩ (.int .i64 x.frm)).setCell ⟨X, 1, none⟩ (.int .i64 x.upto)).setCell ⟨X, 2, none⟩ (.int .i64 x.tier)).setCell ⟨X, 3, none⟩ (.int .i64 (j : Int))).setCell ⟨X, 4, none⟩ (.int .i64 nn)) X 49 #[.int .i64 x'.frm, .int .i64 x'.upto, .int .i64 x'.tier, .int .i64 x'.proj, .int .i64 x'.rows] from by
            have := ((((HKXF.out.set_ 0 (.int .i64 x.frm)).set_ 1 (.int .i64 x.upto)).set_ 2 (.int .i64 x.tier)).set_ 3 (.int .i64 (j : Int))).set_ 4 (.int .i64 nn)
            rw [HXP.out]
            simpa using this)
          have HFB := Lib.hid (show Below wo.heap.size wo (((((wf.setCell ⟨X, 0, none⟩ (.int .i64 x.frm)).setCell ⟨X, 1, none⟩ (.int .i64 x.upto)).setCell ⟨X, 2, none⟩ (.int .i64 x.tier)).setCell ⟨X, 3, none⟩ (.int .i64 (j : Int))).setCell ⟨X, 4, none⟩ (.int .i64 nn)) from bset (bset (bset (bset (bset (bthen HBOQ.out HBF.out) HXG.out.1 _) HXG.out.1 _) HXG.out.1 _) HXG.out.1 _) HXG.out.1 _)
          have HFW := Lib.hid (show Below w2.heap.size w2 (((((wf.setCell ⟨X, 0, none⟩ (.int .i64 x.frm)).setCell ⟨X, 1, none⟩ (.int .i64 x.upto)).setCell ⟨X, 2, none⟩ (.int .i64 x.tier)).setCell ⟨X, 3, none⟩ (.int .i64 (j : Int))).setCell ⟨X, 4, none⟩ (.int .i64 nn)) from bset (bset (bset (bset (bset (bthen HBWQ.out HBF.out) HXG.out.2 _) HXG.out.2 _) HXG.out.2 _) HXG.out.2 _) HXG.out.2 _)
          have HFO := Lib.hid (show (((((wf.setCell ⟨X, 0, none⟩ (.int .i64 x.frm)).setCell ⟨X, 1, none⟩ (.int .i64 x.upto)).setCell ⟨X, 2, none⟩ (.int .i64 x.tier)).setCell ⟨X, 3, none⟩ (.int .i64 (j : Int))).setCell ⟨X, 4, none⟩ (.int .i64 nn)).ownsRow w2.heap.size 49 5 vv ((Z.take k).map pk).length (cellsX ((Z.take k).map pk)) from own_farX (cs := #[]) (own_farX (cs := #[]) (own_farX (cs := #[]) (own_farX (cs := #[]) (own_farX (cs := #[]) (own_below HOQ.out HBF.out) HNX.out _) HNX.out _) HNX.out _) HNX.out _) HNX.out _)
          go_wp2_with fail
          go_roundw
          case rel => exact ⟨j + 1, x', by omega, by go_num, HE, HFX, HFB, HFO, HFW⟩
          case measure => simp [intOf]; omega
end Go.Proofs.Ytgaallkdfcckpaa
