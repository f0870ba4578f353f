/- IndexFunc and ContainsFunc over texts (52, 24), whatever closure; Eligible (12). -/
import Derived.Test.YtgaallkdfcckpaaSB
import Derived.BigQuiet
namespace Go.Proofs.Ytgaallkdfcckpaa
open Go.RowKit Go.Maps Go.Lib Go.Shelf
set_option linter.unusedSimpArgs false
set_option linter.unusedVariables false
def IdxPost (w : World) (r : Bool) (e : Ending) (w' : World) : Prop := (∃ v : Int, e = .returned (.int .i64 v) ∧ (r = true → 0 ≤ v) ∧ (r = false → v = -1)) ∧ w = w'
set_option maxRecDepth 100000 in
set_option maxHeartbeats 16000000 in
theorem idxS_any (A : Option Addr) (n c g : Nat) (lb : Array Value) (st : ByteArray → Bool) (L : List ByteArray) (w : World) (hA : Row w A (texts L)) (hz : n = L.length) (hn : n ≤ 9223372036854775807)
    (eg : ∀ args w, (callFunc g args).run Try.prog w = .ok (.enter g args) w)
    (hg : ∀ x ∈ L, Calls Try.prog g (#[.string x] ++ lb) w fun e W' => e = .returned (.bool (st x)) ∧ w = W') :
    Calls Try.prog 52 #[.slice A n c, .func (.func g) #[] lb] w (IdxPost w (L.any st)) := by
  have HA := Lib.hid hA
  have HZ := Lib.hid hz
  obtain ⟨r, hr⟩ : ∃ r, r = L.any st := ⟨_, rfl⟩
  have HR := Lib.hid (show r = true ↔ ∃ s ∈ L, st s = true by rw [hr]; simp)
  have HG := Lib.hid hg
  rw [← hr]
  clear hA hz hr hg
  go_enter Try.func52, Try.ntmps52
  go_wp2_with fail
  go_loopw [8] (fun i wr => ∃ k : Nat, k ≤ n ∧ i = .int .i64 k ∧ Hid (∀ (j : Nat) (h : j < L.length), j < k → st L[j] = false) ∧ wr = w) (fun i _ => n - (intOf i).toNat)
  case atStart => exact ⟨0, Nat.zero_le _, rfl, Lib.hid (fun j _ h => by omega), rfl⟩
  case round =>
    obtain ⟨k, hk, rfl, HK, rfl⟩ := hrel
    by_cases hlt : k < n
    · have hkz : k < L.length := by have := HZ.out; omega
      have hki : (k : Int) < (n : Int) := by omega
      have hk0 : (0 : Int) ≤ (k : Int) := by omega
      obtain ⟨b, off, hAe, q0⟩ := text_cell HA.out hkz
      obtain ⟨x, hx⟩ : ∃ x, x = L[k] := ⟨_, rfl⟩
      rw [← hx] at q0
      have HX := Lib.hid hx
      have hxm : x ∈ L := by rw [hx]; exact List.getElem_mem _
      obtain ⟨q, hq⟩ : ∃ q : Bool, q = st x := ⟨_, rfl⟩
      have HC := Lib.hid (HG.out x hxm)
      rw [← hq] at HC
      have HQ := Lib.hid hq
      have HM := Lib.hid hxm
      clear hq hx hxm
      subst hAe
      cases q with
      | true =>
        have HT := Lib.hid (show r = true from HR.out.2 ⟨x, HM.out, HQ.out.symm⟩)
        clear hlt
        go_wp2_with (go_at_fn g; refine HC.out.mono ?_; rintro e w1 ⟨rfl, rfl⟩)
        go_ret
        exact ⟨⟨k, rfl, fun _ => (by omega), fun h => (by rw [HT.out] at h; cases h)⟩, rfl⟩
      | false =>
        have HK2 := Lib.hid (show ∀ (j : Nat) (h : j < L.length), j < k + 1 → st L[j] = false from fun j h hj => by
          rcases Nat.lt_or_ge j k with e | e
          · exact HK.out j h e
          · obtain rfl : j = k := by omega
            rw [← HX.out]; exact HQ.out.symm)
        clear hlt
        go_wp2_with (go_at_fn g; refine HC.out.mono ?_; rintro e w1 ⟨rfl, rfl⟩)
        go_roundw
        case rel => exact ⟨k + 1, by omega, by go_num, HK2, by first | rfl | trivial⟩
        case measure => simp [intOf]; omega
    · have hge : ¬ (k : Int) < (n : Int) := by omega
      have HT := Lib.hid (show r = false by
        cases r with
        | false => rfl
        | true =>
          obtain ⟨s, hs, hn⟩ := HR.out.1 rfl
          obtain ⟨j, hj, rfl⟩ := List.mem_iff_getElem.1 hs
          have h2 := HK.out j hj (by have := HZ.out; omega)
          rw [hn] at h2; cases h2)
      clear hlt
      go_wp2_with fail
      go_ret
      exact ⟨⟨-1, rfl, fun h => (by rw [HT.out] at h; cases h), fun _ => rfl⟩, rfl⟩
set_option maxRecDepth 100000 in
set_option maxHeartbeats 16000000 in
theorem hasS_any (A : Option Addr) (n c g : Nat) (lb : Array Value) (st : ByteArray → Bool) (L : List ByteArray) (w : World) (hA : Row w A (texts L)) (hz : n = L.length) (hn : n ≤ 9223372036854775807)
    (eg : ∀ args w, (callFunc g args).run Try.prog w = .ok (.enter g args) w)
    (hg : ∀ x ∈ L, Calls Try.prog g (#[.string x] ++ lb) w fun e W' => e = .returned (.bool (st x)) ∧ w = W') :
    Calls Try.prog 24 #[.slice A n c, .func (.func g) #[] lb] w fun e w' => e = .returned (.bool (L.any st)) ∧ w = w' := by
  have HC := Lib.hid (idxS_any A n c g lb st L w hA hz hn eg hg)
  obtain ⟨r, hr⟩ : ∃ r, r = L.any st := ⟨_, rfl⟩
  rw [← hr] at HC ⊢
  clear hr hA hz hg
  go_enter Try.func24, Try.ntmps24
  cases r with
  | true =>
    go_wp2_with (go_at_call 52; refine HC.out.mono ?_; rintro e w1 ⟨⟨v, rfl, hv, -⟩, rfl⟩; have hv0 := hv rfl; clear hv)
    go_ret
    exact ⟨rfl, rfl⟩
  | false =>
    go_wp2_with (go_at_call 52; refine HC.out.mono ?_; rintro e w1 ⟨⟨v, rfl, -, hv⟩, rfl⟩; obtain rfl := hv rfl)
    go_ret
    exact ⟨rfl, rfl⟩
/-- The closure of Eligible: is a text none of the dimensions? -/
theorem drop22 (G : Nat) (z : TZ) (s : ByteArray) (w : World) (hz : StrsIn w z.A z.n z.c z.D) (hG : w.cell? ⟨G, 0, none⟩ = some (.slice z.A z.n z.c)) :
    Calls Try.prog 22 (#[.string s] ++ #[.pointer (some ⟨G, 0, none⟩)]) w fun e w' => e = .returned (.bool (!inT z.D s)) ∧ w = w' := by
  show Calls Try.prog 22 #[.string s, .pointer (some ⟨G, 0, none⟩)] w _
  obtain ⟨r, hr⟩ : ∃ r, r = inT z.D s := ⟨_, rfl⟩
  have HC := Lib.hid (contains_any z.A z.n z.c z.D s w hz.row hz.len hz.max r (by rw [hr]; exact inT_iff))
  rw [← hr]
  clear hr hz
  go_enter Try.func22, Try.ntmps22
  cases r
  all_goals
    go_wp2_with (go_at_call 23; refine HC.out.mono ?_; rintro e w1 ⟨rfl, rfl⟩)
    go_ret
    exact ⟨rfl, rfl⟩
/-- What Used asks. -/
structure UseOk (w : World) (A : Option Addr) (n c : Nat) (L : List ByteArray) (q : QZ) : Prop where
  li : StrsIn w A n c L
  qi : QIn w q
  b : q.bn ≤ 1000
  lv : q.f.leaves.length ≤ 1000
  n20 : n ≤ 1000000
theorem UseOk.keep {w w' : World} {B : Nat} {A : Option Addr} {n c : Nat} {L : List ByteArray} {q : QZ} (h : UseOk w A n c L q) (hB : w.heap.size ≤ B) (hb : Below B w w') : UseOk w' A n c L q :=
  { h with li := h.li.keep hB hb, qi := h.qi.keep hB hb }
def usedQ (L : List ByteArray) (q : QZ) : List ByteArray := usedL L (q.BY ++ q.f.dims)
theorem usedQ_len (L : List ByteArray) (q : QZ) : (usedQ L q).length ≤ L.length := List.length_filter_le _ _
def eligZ (U : List ByteArray) (ev : Int) (z : TZ) (frm upto : Int) : Bool := !(U.any fun s => !inT z.D s) && (decide (ev = 0) || coB ev z.g) && alB frm z.g && alB upto z.g
def eligC (U : List ByteArray) (ev : Int) (p : PZ) (x : XZ) : Bool :=
  match cubC p x.tier x.proj with
  | none => false
  | some z => eligZ U ev z x.frm x.upto
theorem cubC_mem {p : PZ} {t j : Int} {z : TZ} (h : cubC p t j = some z) : z ∈ p.T ∨ z ∈ p.J := by
  unfold cubC at h
  obtain ⟨y, h1, h2⟩ := Option.bind_eq_some_iff.1 h
  by_cases hj : j = -1
  · rw [if_pos hj] at h2; cases h2; exact .inl (atZ_mem h1).1
  · rw [if_neg hj] at h2
    obtain ⟨v, h3, h4⟩ := Option.bind_eq_some_iff.1 h2
    by_cases hv : v.x = t
    · rw [if_pos hv] at h4; cases h4; exact .inr (atZ_mem h3).1
    · rw [if_neg hv] at h4; cases h4
theorem PIn.cub {w : World} {p : PZ} (hp : PIn w p) {t j : Int} {z : TZ} (h : cubC p t j = some z) : StrsIn w z.A z.n z.c z.D := by
  rcases cubC_mem h with h | h
  · exact hp.t.each z h
  · exact hp.j.each z h
set_option maxRecDepth 100000 in
set_option maxHeartbeats 16000000 in
theorem elig_any (A B : Option Addr) (n c m d : Nat) (L : List ByteArray) (q : QZ) (p : PZ) (x : XZ) (w : World) (hu : UseOk w A n c L q) (hp : PIn w p) :
    Calls Try.prog 12 #[.agg #[.slice A n c, .slice B m d], .agg #[.slice p.tA p.tn p.tc, .slice p.jA p.jn p.jc, .int .i64 p.hor], .agg #[.slice q.tA q.tn q.tc, .int .i64 q.frm, .int .i64 q.upto, .int .i64 q.every, .slice q.bA q.bn q.bc, .int .i64 q.f.op, .string q.f.dim, .string q.f.val, .slice q.f.A q.f.n q.f.c, .slice q.hA q.hn q.hc, .int .i64 q.order, .int .i64 q.limit], .agg #[.int .i64 x.frm, .int .i64 x.upto, .int .i64 x.tier, .int .i64 x.proj, .int .i64 x.rows]] w fun e w' => e = .returned (.bool (eligC (usedQ L q) q.every p x)) ∧ Below w.heap.size w w' := by
  obtain ⟨wa, hwa⟩ : ∃ wa, wa = w.alloc (.cells #[.slice A n c, .slice B m d] 24) := ⟨_, rfl⟩
  obtain ⟨wb, hwb⟩ : ∃ wb, wb = wa.alloc (.cells #[.slice p.tA p.tn p.tc, .slice p.jA p.jn p.jc, .int .i64 p.hor] 28) := ⟨_, rfl⟩
  obtain ⟨wc, hwc⟩ : ∃ wc, wc = wb.alloc (.cells #[.slice q.tA q.tn q.tc, .int .i64 q.frm, .int .i64 q.upto, .int .i64 q.every, .slice q.bA q.bn q.bc, .int .i64 q.f.op, .string q.f.dim, .string q.f.val, .slice q.f.A q.f.n q.f.c, .slice q.hA q.hn q.hc, .int .i64 q.order, .int .i64 q.limit] 42) := ⟨_, rfl⟩
  obtain ⟨w1, hw1⟩ : ∃ w1, w1 = wc.alloc (.cells #[.int .i64 x.frm, .int .i64 x.upto, .int .i64 x.tier, .int .i64 x.proj, .int .i64 x.rows] 49) := ⟨_, rfl⟩
  have ba : Below w.heap.size w wa := by rw [hwa]; exact bpush (Below.refl _ _) _
  have bb : Below wa.heap.size wa wb := by rw [hwb]; exact bpush (Below.refl _ _) _
  have bc : Below wb.heap.size wb wc := by rw [hwc]; exact bpush (Below.refl _ _) _
  have bd : Below wc.heap.size wc w1 := by rw [hw1]; exact bpush (Below.refl _ _) _
  have kS : Blk wa w.heap.size 24 #[.slice A n c, .slice B m d] := by rw [hwa]; exact Blk.new _ _ _
  have kP : Blk wb wa.heap.size 28 #[.slice p.tA p.tn p.tc, .slice p.jA p.jn p.jc, .int .i64 p.hor] := by rw [hwb]; exact Blk.new _ _ _
  have kQ : Blk wc wb.heap.size 42 #[.slice q.tA q.tn q.tc, .int .i64 q.frm, .int .i64 q.upto, .int .i64 q.every, .slice q.bA q.bn q.bc, .int .i64 q.f.op, .string q.f.dim, .string q.f.val, .slice q.f.A q.f.n q.f.c, .slice q.hA q.hn q.hc, .int .i64 q.order, .int .i64 q.limit] := by rw [hwc]; exact Blk.new _ _ _
  have kX : Blk w1 wc.heap.size 49 #[.int .i64 x.frm, .int .i64 x.upto, .int .i64 x.tier, .int .i64 x.proj, .int .i64 x.rows] := by rw [hw1]; exact Blk.new _ _ _
  have za : wa.heap.size = w.heap.size + 1 := by rw [hwa]; simp
  have zb : wb.heap.size = w.heap.size + 2 := by rw [hwb]; simp [za]
  have zc : wc.heap.size = w.heap.size + 3 := by rw [hwc]; simp [zb]
  rw [za] at kP
  rw [zb] at kQ
  rw [zc] at kX
  have kS := kS.below (bthen (bthen bb bc) bd)
  have kP := kP.below (bthen bc bd)
  have kQ := kQ.below bd
  have hb1 : Below w.heap.size w w1 := bthen (bthen (bthen ba bb) bc) bd
  have HB1 := Lib.hid hb1
  obtain ⟨S, hSe⟩ : ∃ S, S = w.heap.size := ⟨_, rfl⟩
  obtain ⟨P, hPe⟩ : ∃ P, P = w.heap.size + 1 := ⟨_, rfl⟩
  obtain ⟨Q, hQe⟩ : ∃ Q, Q = w.heap.size + 2 := ⟨_, rfl⟩
  obtain ⟨X, hXe⟩ : ∃ X, X = w.heap.size + 3 := ⟨_, rfl⟩
  rw [← hSe] at kS
  rw [← hPe] at kP
  rw [← hQe] at kQ
  rw [← hXe] at kX
  have HK := Lib.hid (And.intro kS (And.intro kP (And.intro kQ kX)))
  have HCE := Lib.hid (fun W (hW : Below w1.heap.size w1 W) => And.intro (s_cells (HK.out.1.below hW)) (And.intro (p_cells (HK.out.2.1.below hW)) (And.intro (q_cells (HK.out.2.2.1.below hW)) (xz_cells (HK.out.2.2.2.below hW)))))
  have HW1 := Lib.hid (show w1 = (((w.alloc (.cells #[.slice A n c, .slice B m d] 24)).alloc (.cells #[.slice p.tA p.tn p.tc, .slice p.jA p.jn p.jc, .int .i64 p.hor] 28)).alloc (.cells #[.slice q.tA q.tn q.tc, .int .i64 q.frm, .int .i64 q.upto, .int .i64 q.every, .slice q.bA q.bn q.bc, .int .i64 q.f.op, .string q.f.dim, .string q.f.val, .slice q.f.A q.f.n q.f.c, .slice q.hA q.hn q.hc, .int .i64 q.order, .int .i64 q.limit] 42)).alloc (.cells #[.int .i64 x.frm, .int .i64 x.upto, .int .i64 x.tier, .int .i64 x.proj, .int .i64 x.rows] 49) by rw [hw1, hwc, hwb, hwa])
  have HE4 := Lib.hid (And.intro hSe (And.intro hPe (And.intro hQe hXe)))
  have HU := Lib.hid (hu.keep (Nat.le_refl _) hb1)
  have HP := Lib.hid (hp.keep (Nat.le_refl _) hb1)
  obtain ⟨oo, hoo⟩ : ∃ o, o = eligC (usedQ L q) q.every p x := ⟨_, rfl⟩
  rw [← hoo]
  obtain ⟨o, ho⟩ : ∃ o, o = cubC p x.tier x.proj := ⟨_, rfl⟩
  unfold eligC at hoo
  rw [← ho] at hoo
  have HOO := Lib.hid hoo
  have HO := Lib.hid ho
  have HCU := Lib.hid (cuboid_any p x.tier x.proj w1 HP.out)
  rw [← ho] at HCU
  obtain ⟨⟨s0, s1⟩, ⟨p0, p1, p2⟩, ⟨c0, c1, c2, c3, c4, c5, c6, c7, c8, c9, c10, c11⟩, ⟨x0, x1, x2, x3, x4⟩⟩ := HCE.out w1 (Below.refl _ _)
  clear hwa hwb hwc hw1 ba bb bc bd za zb zc kS kP kQ kX hb1 hu hp hSe hPe hQe hXe hoo ho
  go_enter Try.func12, Try.ntmps12
  go_upto_region 1 with fail
  rw [← HW1.out, ← HE4.out.2.2.2, ← HE4.out.2.2.1, ← HE4.out.2.1, ← HE4.out.1]
  cases o with
  | none =>
    have HCU := Lib.hid (show Calls Try.prog 21 #[.agg #[.slice p.tA p.tn p.tc, .slice p.jA p.jn p.jc, .int .i64 p.hor], .int .i64 x.tier, .int .i64 x.proj] w1 fun e w' => e = .returned (.tuple #[.slice none 0 0, .int .i64 0, .bool false]) ∧ Below w1.heap.size w1 w' from HCU.out)
    have HE := Lib.hid (show oo = false from HOO.out)
    go_wp2_with (go_at_call 21; refine HCU.out.mono ?_; rintro e w2 ⟨rfl, hb⟩; have HB2 := Lib.hid hb; clear hb)
    go_ret
    exact ⟨by rw [HE.out]; rfl, bpush (bthen HB1.out HB2.out) _⟩
  | some z =>
    have HZ := Lib.hid (HP.out.cub HO.out.symm)
    have HOZ := Lib.hid (show oo = eligZ (usedQ L q) q.every z x.frm x.upto from HOO.out)
    obtain ⟨zg, hzg⟩ : ∃ x, x = z.g := ⟨_, rfl⟩
    obtain ⟨zA, hzA⟩ : ∃ x, x = z.A := ⟨_, rfl⟩
    obtain ⟨zn, hzn⟩ : ∃ x, x = z.n := ⟨_, rfl⟩
    obtain ⟨zc, hzc⟩ : ∃ x, x = z.c := ⟨_, rfl⟩
    have HCU := Lib.hid (show Calls Try.prog 21 #[.agg #[.slice p.tA p.tn p.tc, .slice p.jA p.jn p.jc, .int .i64 p.hor], .int .i64 x.tier, .int .i64 x.proj] w1 fun e w' => e = .returned (.tuple #[.slice zA zn zc, .int .i64 zg, .bool true]) ∧ Below w1.heap.size w1 w' from by rw [hzA, hzn, hzc, hzg]; exact HCU.out)
    obtain ⟨ev, hev⟩ : ∃ x, x = q.every := ⟨_, rfl⟩
    obtain ⟨fr, hfr⟩ : ∃ y, y = x.frm := ⟨_, rfl⟩
    obtain ⟨up, hup⟩ : ∃ y, y = x.upto := ⟨_, rfl⟩
    obtain ⟨U, hU⟩ : ∃ U, U = usedQ L q := ⟨_, rfl⟩
    obtain ⟨r1, hr1⟩ : ∃ r, r = U.any fun s => !inT z.D s := ⟨_, rfl⟩
    have HCO := Lib.hid (fun W => co_any ev zg W)
    have HA1 := Lib.hid (fun W => al_any fr zg W)
    have HA2 := Lib.hid (fun W => al_any up zg W)
    obtain ⟨co, hco⟩ : ∃ r, r = coB ev zg := ⟨_, rfl⟩
    obtain ⟨a1, ha1⟩ : ∃ r, r = alB fr zg := ⟨_, rfl⟩
    obtain ⟨a2, ha2⟩ : ∃ r, r = alB up zg := ⟨_, rfl⟩
    rw [← hco] at HCO
    rw [← ha1] at HA1
    rw [← ha2] at HA2
    have HOE := Lib.hid (show oo = (!r1 && (decide (ev = 0) || co) && a1 && a2) by
      rw [HOZ.out, hr1, hco, ha1, ha2, hev, hfr, hup, hU, hzg]; rfl)
    have HUS := Lib.hid (fun W (hW : Below w1.heap.size w1 W) => used_any A B n c m d L [] q W (HU.out.li.keep (Nat.le_refl _) hW) (HU.out.qi.keep (Nat.le_refl _) hW) HU.out.b (by have := HU.out.lv; omega) HU.out.n20)
    have HUE := Lib.hid hU
    have HULEN := Lib.hid (show U.length ≤ 1000000 by rw [hU]; have := usedQ_len L q; have := HU.out.li.len; have := HU.out.n20; omega)
    have HRE := Lib.hid hr1
    have HZA := Lib.hid (And.intro hzA (And.intro hzn hzc))
    rw [← hev] at c3
    rw [← hfr] at x0
    rw [← hup] at x1
    have HEV := Lib.hid (And.intro hev (And.intro hfr hup))
    clear hzg hzA hzn hzc hev hfr hup hU hr1 hco ha1 ha2
    go_upto_region 2 with (go_at_call 21; refine HCU.out.mono ?_; rintro e w2 ⟨rfl, hb⟩; have HB2 := Lib.hid hb; clear hb)
    obtain ⟨w3, hw3⟩ : ∃ w3, w3 = w2.alloc (.cells #[.slice zA zn zc] 22) := ⟨_, rfl⟩
    obtain ⟨G, hG⟩ : ∃ G, G = w2.heap.size := ⟨_, rfl⟩
    have hb3 : Below w2.heap.size w2 w3 := by rw [hw3]; exact bpush (Below.refl _ _) _
    have HB3 := Lib.hid (bthen HB2.out hb3)
    have HG3 := Lib.hid (show w3.cell? ⟨G, 0, none⟩ = some (.slice z.A z.n z.c) by rw [hw3, hG, ← HZA.out.1, ← HZA.out.2.1, ← HZA.out.2.2]; exact cell_made rfl rfl)
    rw [← hw3, ← hG]
    clear hw3 hG hb3 s0 s1 p0 p1 p2 c0 c1 c2 c3 c4 c5 c6 c7 c8 c9 c10 c11 x0 x1 x2 x3 x4
    obtain ⟨⟨s0, s1⟩, ⟨p0, p1, p2⟩, ⟨c0, c1, c2, c3, c4, c5, c6, c7, c8, c9, c10, c11⟩, ⟨x0, x1, x2, x3, x4⟩⟩ := HCE.out w3 HB3.out
    have HUS3 := Lib.hid (HUS.out w3 HB3.out)
    have HCE4 := Lib.hid (fun W (hW : Below w1.heap.size w1 W) => show W.cell? ⟨Q, 3, none⟩ = some (.int .i64 ev) ∧ W.cell? ⟨X, 0, none⟩ = some (.int .i64 fr) ∧ W.cell? ⟨X, 1, none⟩ = some (.int .i64 up) from by
      rw [HEV.out.1, HEV.out.2.1, HEV.out.2.2]
      exact ⟨(HCE.out W hW).2.2.1.2.2.2.1, (HCE.out W hW).2.2.2.1, (HCE.out W hW).2.2.2.2.1⟩)
    have HHAS := Lib.hid (fun (A4 : Option Addr) (c4 : Nat) W (hW : Below w3.heap.size w3 W) (hr : Row W A4 (texts U)) => hasS_any A4 U.length c4 22 #[.pointer (some ⟨G, 0, none⟩)] (fun s => !inT z.D s) U W hr rfl (by have := HULEN.out; omega) (fun _ _ => rfl) (fun s _ => drop22 G z s W (HZ.out.keep (Nat.le_refl _) (bthen HB3.out hW)) (cell_on hW HG3.out)))
    rw [← HRE.out] at HHAS
    have HUL := Lib.hid (show (usedL L (q.BY ++ q.f.dims)).length = U.length by rw [HUE.out]; rfl)
    have HUT := Lib.hid (show texts (usedL L (q.BY ++ q.f.dims)) = texts U by rw [HUE.out]; rfl)
    cases r1 with
    | true =>
      have HE := Lib.hid (show oo = false by rw [HOE.out]; rfl)
      go_wp2_with (first
        | (go_at_call 25; refine HUS3.out.mono ?_; rintro e w4 ⟨v4, rfl, ho4, hb⟩; have HB4 := Lib.hid hb; rw [HUL.out, HUT.out] at ho4; obtain ⟨A4, k4, rfl, hr4, -, -⟩ := own_slice ho4; have HR4 := Lib.hid hr4; clear hb ho4 hr4)
        | (go_at_call 24; refine (HHAS.out _ _ _ HB4.out HR4.out).mono ?_; rintro e w5 ⟨rfl, rfl⟩))
      go_ret
      exact ⟨by rw [HE.out]; rfl, bthen HB1.out (bthen HB3.out HB4.out)⟩
    | false =>
    by_cases h0 : ev = 0
    · cases a1 with
      | false =>
        have HE := Lib.hid (show oo = false by rw [HOE.out]; simp)
        subst h0
        go_wp2_with (first
          | (go_at_call 25; refine HUS3.out.mono ?_; rintro e w4 ⟨v4, rfl, ho4, hb⟩; have HB4 := Lib.hid hb; rw [HUL.out, HUT.out] at ho4; obtain ⟨A4, k4, rfl, hr4, -, -⟩ := own_slice ho4; have HR4 := Lib.hid hr4; obtain ⟨d0, d1, d2⟩ := HCE4.out w4 (bthen HB3.out hb); clear hb ho4 hr4)
          | (go_at_call 24; refine (HHAS.out _ _ _ HB4.out HR4.out).mono ?_; rintro e w5 ⟨rfl, rfl⟩)
          | (go_at_call 27; refine (HA1.out _).mono ?_; rintro e w5 ⟨rfl, rfl⟩))
        go_ret
        exact ⟨by rw [HE.out]; rfl, bthen HB1.out (bthen HB3.out HB4.out)⟩
      | true =>
        have HE := Lib.hid (show oo = a2 by rw [HOE.out]; simp [h0])
        subst h0
        go_wp2_with (first
          | (go_at_call 25; refine HUS3.out.mono ?_; rintro e w4 ⟨v4, rfl, ho4, hb⟩; have HB4 := Lib.hid hb; rw [HUL.out, HUT.out] at ho4; obtain ⟨A4, k4, rfl, hr4, -, -⟩ := own_slice ho4; have HR4 := Lib.hid hr4; obtain ⟨d0, d1, d2⟩ := HCE4.out w4 (bthen HB3.out hb); clear hb ho4 hr4)
          | (go_at_call 24; refine (HHAS.out _ _ _ HB4.out HR4.out).mono ?_; rintro e w5 ⟨rfl, rfl⟩)
          | (go_at_call 27; with_reducible refine (HA1.out _).mono ?_; rintro e w5 ⟨rfl, rfl⟩)
          | (go_at_call 27; with_reducible refine (HA2.out _).mono ?_; rintro e w5 ⟨rfl, rfl⟩))
        go_ret
        exact ⟨by rw [HE.out]; rfl, bthen HB1.out (bthen HB3.out HB4.out)⟩
    · have h0b : (ev == 0) = false := by simp [h0]
      cases co with
      | false =>
        have HE := Lib.hid (show oo = false by rw [HOE.out]; simp [h0])
        clear h0
        go_wp2_with (first
          | (go_at_call 25; refine HUS3.out.mono ?_; rintro e w4 ⟨v4, rfl, ho4, hb⟩; have HB4 := Lib.hid hb; rw [HUL.out, HUT.out] at ho4; obtain ⟨A4, k4, rfl, hr4, -, -⟩ := own_slice ho4; have HR4 := Lib.hid hr4; obtain ⟨d0, d1, d2⟩ := HCE4.out w4 (bthen HB3.out hb); clear hb ho4 hr4)
          | (go_at_call 24; refine (HHAS.out _ _ _ HB4.out HR4.out).mono ?_; rintro e w5 ⟨rfl, rfl⟩)
          | (go_at_call 26; refine (HCO.out _).mono ?_; rintro e w5 ⟨rfl, rfl⟩))
        go_ret
        exact ⟨by rw [HE.out]; rfl, bthen HB1.out (bthen HB3.out HB4.out)⟩
      | true =>
      cases a1 with
      | false =>
        have HE := Lib.hid (show oo = false by rw [HOE.out]; simp)
        clear h0
        go_wp2_with (first
          | (go_at_call 25; refine HUS3.out.mono ?_; rintro e w4 ⟨v4, rfl, ho4, hb⟩; have HB4 := Lib.hid hb; rw [HUL.out, HUT.out] at ho4; obtain ⟨A4, k4, rfl, hr4, -, -⟩ := own_slice ho4; have HR4 := Lib.hid hr4; obtain ⟨d0, d1, d2⟩ := HCE4.out w4 (bthen HB3.out hb); clear hb ho4 hr4)
          | (go_at_call 24; refine (HHAS.out _ _ _ HB4.out HR4.out).mono ?_; rintro e w5 ⟨rfl, rfl⟩)
          | (go_at_call 26; refine (HCO.out _).mono ?_; rintro e w5 ⟨rfl, rfl⟩)
          | (go_at_call 27; with_reducible refine (HA1.out _).mono ?_; rintro e w5 ⟨rfl, rfl⟩))
        go_ret
        exact ⟨by rw [HE.out]; rfl, bthen HB1.out (bthen HB3.out HB4.out)⟩
      | true =>
        have HE := Lib.hid (show oo = a2 by rw [HOE.out]; simp)
        clear h0
        go_wp2_with (first
          | (go_at_call 25; refine HUS3.out.mono ?_; rintro e w4 ⟨v4, rfl, ho4, hb⟩; have HB4 := Lib.hid hb; rw [HUL.out, HUT.out] at ho4; obtain ⟨A4, k4, rfl, hr4, -, -⟩ := own_slice ho4; have HR4 := Lib.hid hr4; obtain ⟨d0, d1, d2⟩ := HCE4.out w4 (bthen HB3.out hb); clear hb ho4 hr4)
          | (go_at_call 24; refine (HHAS.out _ _ _ HB4.out HR4.out).mono ?_; rintro e w5 ⟨rfl, rfl⟩)
          | (go_at_call 26; refine (HCO.out _).mono ?_; rintro e w5 ⟨rfl, rfl⟩)
          | (go_at_call 27; with_reducible refine (HA1.out _).mono ?_; rintro e w5 ⟨rfl, rfl⟩)
          | (go_at_call 27; with_reducible refine (HA2.out _).mono ?_; rintro e w5 ⟨rfl, rfl⟩))
        go_ret
        exact ⟨by rw [HE.out]; rfl, bthen HB1.out (bthen HB3.out HB4.out)⟩
end Go.Proofs.Ytgaallkdfcckpaa
