/- Witness (6): the walk. -/
import Derived.Test.YtgaallkdfcckpaaSV
import Derived.Test.YtgaallkdfcckpaaSZ
namespace Go.Proofs.Ytgaallkdfcckpaa
open Go.RowKit Go.Maps Go.Lib Go.Shelf
set_option linter.unusedSimpArgs false
set_option linter.unusedVariables false
theorem andA1023 (m : Int) : ∃ q : Nat, q ≤ 1023 ∧ bits .and .i64 m 1023 = (q : Int) := by
  have h : (BitVec.ofInt 64 m &&& BitVec.ofInt 64 1023).toNat ≤ 1023 := by rw [BitVec.toNat_and]; exact Nat.and_le_right
  refine ⟨(BitVec.ofInt 64 m &&& BitVec.ofInt 64 1023).toNat, h, ?_⟩
  show IntKind.i64.wrap ((BitVec.ofInt 64 m &&& BitVec.ofInt 64 1023).toNat : Int) = _
  exact IntWalk.i64_in _ (by omega)
theorem andA255 (m : Int) : ∃ q : Nat, q ≤ 255 ∧ bits .and .i64 m 255 = (q : Int) := by
  have h : (BitVec.ofInt 64 m &&& BitVec.ofInt 64 255).toNat ≤ 255 := by rw [BitVec.toNat_and]; exact Nat.and_le_right
  refine ⟨(BitVec.ofInt 64 m &&& BitVec.ofInt 64 255).toNat, h, ?_⟩
  show IntKind.i64.wrap ((BitVec.ofInt 64 m &&& BitVec.ofInt 64 255).toNat : Int) = _
  exact IntWalk.i64_in _ (by omega)
/-- Edges before the n-th are whole for the tier behind them. -/
def DivTo (E : List Int) (T : List TZ) (n1 n : Nat) : Prop := ∀ (a : Nat) (h1 : a < E.length) (h2 : min (a + 1) n1 < T.length), a < n → a < n1 + 1 → E[a].tmod T[min (a + 1) n1].g = 0
theorem co_self {g : Int} (h : okGran g) : coB g g = true := by
  unfold coB
  simp only [Bool.and_eq_true, decide_eq_true_eq, beq_iff_eq]
  exact ⟨⟨h, h⟩, Int.emod_self⟩
theorem co_dvd {a b : Int} (h : coB a b = true) : b ∣ a := by
  unfold coB at h
  simp only [Bool.and_eq_true, decide_eq_true_eq, beq_iff_eq] at h
  exact Int.dvd_of_emod_eq_zero h.2
theorem tiers_dvd {p : PZ} (hp : PolF p) : ∀ (k i : Nat) (h : i + k < p.T.length), coB p.T[i + k].g (p.T[i]'(by omega)).g = true := by
  intro k
  induction k with
  | zero => intro i h; exact co_self (hp.tg _ (List.getElem_mem _))
  | succ k ih =>
    intro i h
    have h1 := ih i (by omega)
    have h2 := (hp.tt (i + k) (by omega)).1
    unfold coB at *
    simp only [Bool.and_eq_true, decide_eq_true_eq, beq_iff_eq] at *
    exact ⟨⟨h2.1.1, h1.1.2⟩, Int.emod_eq_zero_of_dvd (Int.dvd_trans (Int.dvd_of_emod_eq_zero h1.2) (Int.dvd_of_emod_eq_zero h2.2))⟩
theorem tiers_le {p : PZ} (hp : PolF p) {i j : Nat} (hij : i ≤ j) (h : j < p.T.length) : coB p.T[j].g (p.T[i]'(by omega)).g = true := by
  obtain ⟨k, rfl⟩ : ∃ k, j = i + k := ⟨j - i, by omega⟩
  exact tiers_dvd hp k i h
theorem wit_all {D : List ByteArray} {p : PZ} {E : List Int} {n1 na nc : Nat} (hp : PolF p) (hn : p.T.length = n1 + 1) (hE : E.length = n1 + 1) (hd : DivTo E p.T n1 (n1 + 1)) (q : QZ) (hq : usedQ D q = []) (hev : q.every = (p.T[n1]'(by omega)).g) (hfr : q.frm = (p.T[n1]'(by omega)).g * (na : Int)) (hup : q.upto = (p.T[n1]'(by omega)).g * (na : Int) + (p.T[n1]'(by omega)).g * (1 + (nc : Int))) :
    ∀ x ∈ strS E q.frm q.upto (n1 + 1), elC D q p x = true := by
  intro x hx
  obtain ⟨i, hi, rfl, -⟩ := strS_mem hx
  have hit : i < p.T.length := by omega
  have hco := tiers_le hp (show i ≤ n1 by omega) (by omega)
  have d0 : (p.T[i]'hit).g ∣ (p.T[n1]'(by omega)).g := co_dvd hco
  have d1 : (p.T[i]'hit).g ∣ q.frm := by rw [hfr]; exact Int.dvd_trans d0 (Int.dvd_mul_right _ _)
  have d2 : (p.T[i]'hit).g ∣ q.upto := by rw [hup]; exact Int.dvd_add (Int.dvd_trans d0 (Int.dvd_mul_right _ _)) (Int.dvd_trans d0 (Int.dvd_mul_right _ _))
  have hEd : ∀ (a : Nat) (h : a < E.length), i ≤ min (a + 1) n1 → (p.T[i]'hit).g ∣ E[a] := fun a h hle => by
    have h1 := hd a h (by omega) (by omega) (by omega)
    exact Int.dvd_trans (co_dvd (tiers_le hp hle (by omega))) (Int.dvd_of_tmod_eq_zero h1)
  have hok : okGran (p.T[i]'hit).g := hp.tg _ (List.getElem_mem _)
  have al : ∀ t : Int, (p.T[i]'hit).g ∣ t → alB t (p.T[i]'hit).g = true := fun t h => by
    unfold alB
    simp only [Bool.and_eq_true, decide_eq_true_eq, beq_iff_eq]
    exact ⟨hok, Int.tmod_eq_zero_of_dvd h⟩
  have e1 : (strAt E q.frm q.upto i).frm = max q.frm (E.getD i 0) := rfl
  have e2 : (strAt E q.frm q.upto i).upto = if i = 0 then q.upto else min q.upto (E.getD (i - 1) 0) := rfl
  have g1 : E.getD i 0 = E[i]'(by omega) := by rw [List.getD_eq_getElem?_getD, List.getElem?_eq_getElem (by omega)]; rfl
  have a1 : alB (strAt E q.frm q.upto i).frm (p.T[i]'hit).g = true := al _ (by
    rw [e1, g1]
    rcases Int.le_total q.frm (E[i]'(by omega)) with h | h
    · rw [Int.max_eq_right h]; exact hEd i (by omega) (by omega)
    · rw [Int.max_eq_left h]; exact d1)
  have a2 : alB (strAt E q.frm q.upto i).upto (p.T[i]'hit).g = true := al _ (by
    rw [e2]
    by_cases h0 : i = 0
    · rw [if_pos h0]; exact d2
    · have g2 : E.getD (i - 1) 0 = E[i - 1]'(by omega) := by rw [List.getD_eq_getElem?_getD, List.getElem?_eq_getElem (by omega)]; rfl
      rw [if_neg h0, g2]
      rcases Int.le_total q.upto (E[i - 1]'(by omega)) with h | h
      · rw [Int.min_eq_left h]; exact d2
      · rw [Int.min_eq_right h]; exact hEd (i - 1) (by omega) (by omega))
  unfold elC eligC
  have hc : cubC p (strAt E q.frm q.upto i).tier (strAt E q.frm q.upto i).proj = some (p.T[i]'hit) := cub_own hit
  simp only [hc, hq]
  unfold eligZ
  rw [a1, a2, hev, hco]
  simp
def qW (t : Nat) (fr up g : Int) : QZ := { tA := some ⟨t, 0, none⟩, tn := 1, tc := 1, T := [(0, ⟨#[]⟩)], frm := fr, upto := up, every := g, bA := none, bn := 0, bc := 0, BY := [], f := f00, hA := none, hn := 0, hc := 0, H := [], order := 0, limit := 0 }
theorem qW_in {w : World} {t : Nat} {fr up g : Int} (h1 : Blk w t 63 #[.int .i64 0, .string ⟨#[]⟩]) : QIn w (qW t fr up g) := {
  by_ := ⟨.inl rfl, rfl, Nat.le_refl _, (fun _ => rfl), by show (0 : Nat) ≤ 9223372036854775807; omega⟩
  f := FIn.of ⟨.inl rfl, rfl, Nat.le_refl _, by show (0 : Nat) ≤ 9223372036854775807; omega, (by show (⟨#[]⟩ : ByteArray).size ≤ 140737488355328; decide), (by show (⟨#[]⟩ : ByteArray).size ≤ 140737488355328; decide)⟩ (fun k hk => by cases hk)
  trow := h1.rowT rfl
  tlen := rfl
  tcap := Nat.le_refl _
  tmax := by show (1 : Nat) ≤ 9223372036854775807; omega
  hrow := .inl rfl
  hlen := rfl
  hcap := Nat.le_refl _
  hmax := by show (0 : Nat) ≤ 9223372036854775807; omega }
theorem qW_used (D : List ByteArray) (t : Nat) (fr up g : Int) : usedQ D (qW t fr up g) = [] := by
  unfold usedQ
  show usedL D ([] ++ f00.dims) = []
  rw [f00_dims]
  simp [usedL, inT]
set_option maxRecDepth 100000 in
set_option maxHeartbeats 64000000 in
theorem witness_walk (m : MZ) (a c : Int) (w : World) (hm : MIn w m) (hd1 : m.dn ≤ 1100000) (hd2 : m.mn ≤ 1100000) (hds : ∀ s ∈ m.D, s.size ≤ 9223372036854775807) (hms : ∀ s ∈ m.M, s.size ≤ 9223372036854775807) : Calls Try.prog 6 #[.agg #[.slice m.dA m.dn m.dc, .slice m.mA m.mn m.mc, .slice m.p.tA m.p.tn m.p.tc, .slice m.p.jA m.p.jn m.p.jc, .int .i64 m.p.hor, .int .i64 m.now, .slice m.eA m.en m.ec, .int .i64 m.cnt, .slice m.sA m.sn m.sc, .slice m.fA m.fn m.fc, .string m.jr, .int .i64 m.nxt], .int .i64 a, .int .i64 c] w (fun e w' => e = .returned (.bool true) ∧ Below w.heap.size w w') := by
  obtain ⟨w1, hw1⟩ : ∃ w1, w1 = w.alloc (.cells #[.slice m.dA m.dn m.dc, .slice m.mA m.mn m.mc, .slice m.p.tA m.p.tn m.p.tc, .slice m.p.jA m.p.jn m.p.jc, .int .i64 m.p.hor, .int .i64 m.now, .slice m.eA m.en m.ec, .int .i64 m.cnt, .slice m.sA m.sn m.sc, .slice m.fA m.fn m.fc, .string m.jr, .int .i64 m.nxt] 34) := ⟨_, rfl⟩
  have hb1 : Below w.heap.size w w1 := by rw [hw1]; exact bpush (Below.refl _ _) _
  have kM : Blk w1 w.heap.size 34 #[.slice m.dA m.dn m.dc, .slice m.mA m.mn m.mc, .slice m.p.tA m.p.tn m.p.tc, .slice m.p.jA m.p.jn m.p.jc, .int .i64 m.p.hor, .int .i64 m.now, .slice m.eA m.en m.ec, .int .i64 m.cnt, .slice m.sA m.sn m.sc, .slice m.fA m.fn m.fc, .string m.jr, .int .i64 m.nxt] := by rw [hw1]; exact Blk.new _ _ _
  have HB1 := Lib.hid hb1
  obtain ⟨G, hGe⟩ : ∃ G, G = w.heap.size := ⟨_, rfl⟩
  rw [← hGe] at kM
  have HKM := Lib.hid kM
  have HM := Lib.hid (hm.keep (Nat.le_refl _) hb1)
  have HCE := Lib.hid (fun W (hW : Below w1.heap.size w1 W) => m_cells (HKM.out.below hW))
  have HW1 := Lib.hid hw1
  have HE2 := Lib.hid hGe
  have H16 := Lib.hid (fits16 m w1 HM.out)
  have H17 := Lib.hid (fun W (hW : Below w1.heap.size w1 W) => right17 m W (HM.out.keep (Nat.le_refl _) hW) hd1 hd2 hds hms)
  obtain ⟨d0, d1, d2, d3, d4, d5, d6, d7, d8, d9, d10, d11⟩ := HCE.out w1 (Below.refl _ _)
  clear hw1 kM hb1 hm hGe hds hms hd1 hd2
  go_enter Try.func6, Try.ntmps6
  go_upto_region 1 with fail
  rw [← HW1.out, ← HE2.out]
  go_upto_region 2 with (go_at_call 16; refine H16.out.mono ?_; rintro e w2 ⟨⟨ra, rfl, -⟩, hb⟩; have HB2 := Lib.hid hb; clear hb)
  clear d0 d1 d2 d3 d4 d5 d6 d7 d8 d9 d10 d11
  obtain ⟨d0, d1, d2, d3, d4, d5, d6, d7, d8, d9, d10, d11⟩ := HCE.out w2 HB2.out
  have H17' := Lib.hid (H17.out w2 HB2.out)
  go_upto_region 3 with (go_at_call 17; refine H17'.out.mono ?_; rintro e w4 ⟨⟨rc, rfl, hrc⟩, hb⟩; have HRC := Lib.hid hrc; have HB4 := Lib.hid (bthen HB2.out hb); clear hb hrc)
  clear d0 d1 d2 d3 d4 d5 d6 d7 d8 d9 d10 d11 H16 H17 H17'
  cases ra with
  | false =>
    go_wp2_with (go_at_call 8; refine (alive_any _).mono ?_; rintro e w8 ⟨rfl, hb⟩; have HB8 := Lib.hid hb; clear hb)
    go_ret
    exact ⟨rfl, bthen HB1.out (bthen HB4.out HB8.out)⟩
  | true =>
  cases rc with
  | false =>
    go_wp2_with (go_at_call 8; refine (alive_any _).mono ?_; rintro e w8 ⟨rfl, hb⟩; have HB8 := Lib.hid hb; clear hb)
    go_ret
    exact ⟨rfl, bthen HB1.out (bthen HB4.out HB8.out)⟩
  | true =>
  have HR := Lib.hid (HRC.out rfl)
  clear HRC
  have HLN := Lib.hid (show m.en = m.p.tn ∧ m.p.tn = m.p.T.length ∧ m.en = m.E.length ∧ m.en ≤ 4 ∧ 1 ≤ m.en from by
    have := HM.out.el; have := HM.out.pi.t.len; have := HR.out.el; have := HR.out.pol.t1; have := HR.out.pol.t4; omega)
  obtain ⟨n1, hn1⟩ : ∃ n, m.en = n + 1 := ⟨m.en - 1, by have := HLN.out; omega⟩
  have hnt : n1 < m.p.T.length := by have := HLN.out; omega
  have hne : n1 < m.E.length := by have := HLN.out; omega
  have HN1 := Lib.hid hn1
  obtain ⟨tb, tO, hTe, t0, t1, t2⟩ := tz_cells (HM.out.pi.t.row.keep (Nat.le_refl _) HB4.out) hnt
  obtain ⟨eb, eo, hEe, ev⟩ := (HM.out.e.keep (Nat.le_refl _) HB4.out).cell hne
  obtain ⟨g, hg⟩ : ∃ g, g = (m.p.T[n1]'hnt).g := ⟨_, rfl⟩
  obtain ⟨low, hlow⟩ : ∃ x, x = m.E[n1]'hne := ⟨_, rfl⟩
  rw [← hg] at t1
  rw [← hlow] at ev
  have HG := Lib.hid hg
  have HLO := Lib.hid hlow
  have HTE := Lib.hid (show m.p.tA = some ⟨tb, tO, none⟩ ∧ m.p.tn = n1 + 1 ∧ m.eA = some ⟨eb, eo, none⟩ ∧ m.en = n1 + 1 from ⟨hTe, by have := HLN.out; omega, hEe, hn1⟩)
  have hn4 : n1 ≤ 3 := by have := HLN.out; omega
  obtain ⟨d0, d1, d2, d3, d4, d5, d6, d7, d8, d9, d10, d11⟩ := HCE.out w4 HB4.out
  rw [HTE.out.1, HTE.out.2.1] at d2
  rw [HTE.out.2.2.1, HTE.out.2.2.2] at d6
  have hn10 : (0 : Int) ≤ (n1 : Int) := by omega
  have hn11 : (n1 : Int) < ((n1 + 1 : Nat) : Int) := by omega
  clear hg hlow hTe hEe t0 t2 hn1
  go_upto_region 8 with fail
  clear d0 d1 d2 d3 d4 d5 d6 d7 d8 d9 d10 d11 t1 ev hn10 hn11
  go_loopw [11] (fun vi wr => ∃ i : Nat, i ≤ n1 + 1 ∧ vi = .int .i64 i ∧ Hid (DivTo m.E m.p.T n1 i) ∧ Hid (Below w4.heap.size w4 wr)) (fun vi _ => n1 + 1 - (intOf vi).toNat)
  case atStart => exact ⟨0, by omega, rfl, Lib.hid (fun a h1 h2 h3 h4 => by omega), Lib.hid (Below.refl _ _)⟩
  case round =>
    obtain ⟨i, hi, rfl, HDV, HBA⟩ := hrel
    obtain ⟨wo, rfl⟩ : ∃ wo : World, wo = wr := ⟨_, rfl⟩
    have HB := Lib.hid (bthen HB4.out HBA.out)
    obtain ⟨d0, d1, d2, d3, d4, d5, d6, d7, d8, d9, d10, d11⟩ := HCE.out wo HB.out
    rw [HTE.out.2.1] at d2
    rw [HTE.out.2.2.2] at d6
    by_cases hlt : i < n1 + 1
    case neg =>
      obtain rfl : i = n1 + 1 := by omega
      have hge : ¬ ((n1 + 1 : Nat) : Int) < ((n1 + 1 : Nat) : Int) := by omega
      obtain ⟨na, hna, hba⟩ := andA1023 a
      obtain ⟨nc, hnc, hbc⟩ := andA255 c
      have hgo : okGran g := by rw [HG.out]; exact HR.out.pol.tg _ (List.getElem_mem _)
      have hg1 := hgo.1
      have hg2 := hgo.2
      obtain ⟨fr, hfr⟩ : ∃ f, f = g * (na : Int) := ⟨_, rfl⟩
      obtain ⟨sp, hsp⟩ : ∃ f, f = g * (1 + (nc : Int)) := ⟨_, rfl⟩
      have hf0 : 0 ≤ fr := by rw [hfr]; exact Int.mul_nonneg (by omega) (by omega)
      have hf1 : fr ≤ 1048576 * 1023 := by rw [hfr]; exact Int.mul_le_mul hg2 (by omega) (by omega) (by omega)
      have hs0 : 1 ≤ sp := by
        have h := Int.mul_le_mul (a := 1) (b := 1) hg1 (show (1 : Int) ≤ 1 + (nc : Int) by omega) (by omega) (by omega)
        rw [hsp]; omega
      have hs1 : sp ≤ 1048576 * 256 := by rw [hsp]; exact Int.mul_le_mul hg2 (by omega) (by omega) (by omega)
      have hfw : IntKind.i64.wrap (g * (na : Int)) = fr := by rw [← hfr]; exact IntWalk.i64_in _ (by omega)
      have hsw : IntKind.i64.wrap (g * (1 + (nc : Int))) = sp := by rw [← hsp]; exact IntWalk.i64_in _ (by omega)
      have huw : IntKind.i64.wrap (fr + sp) = fr + sp := IntWalk.i64_in _ (by omega)
      clear hlt
      go_upto_region 15 with fail
      rw [← hfr, ← hsp]
      obtain ⟨wx, hwx⟩ : ∃ wx, wx = wo.alloc (.cells #[.int .i64 0, .string ⟨#[]⟩] 63) := ⟨_, rfl⟩
      obtain ⟨wl, hwl⟩ : ∃ wl, wl = wx.alloc (.cells #[.slice (some ⟨wo.heap.size, 0, none⟩) 1 1, .int .i64 fr, .int .i64 (fr + sp), .int .i64 g, .slice none 0 0, .int .i64 0, .string ⟨#[]⟩, .string ⟨#[]⟩, .slice none 0 0, .slice none 0 0, .int .i64 0, .int .i64 0] 42) := ⟨_, rfl⟩
      have bx : Below wo.heap.size wo wx := by rw [hwx]; exact bpush (Below.refl _ _) _
      have bl : Below wx.heap.size wx wl := by rw [hwl]; exact bpush (Below.refl _ _) _
      have szx : wx.heap.size = wo.heap.size + 1 := by rw [hwx]; simp
      have kT : Blk wl wo.heap.size 63 #[.int .i64 0, .string ⟨#[]⟩] := by
        have h := Blk.new wo 63 #[.int .i64 0, .string ⟨#[]⟩]
        rw [← hwx] at h
        exact h.below bl
      have kQ : Blk wl (wo.heap.size + 1) 42 #[.slice (some ⟨wo.heap.size, 0, none⟩) 1 1, .int .i64 fr, .int .i64 (fr + sp), .int .i64 g, .slice none 0 0, .int .i64 0, .string ⟨#[]⟩, .string ⟨#[]⟩, .slice none 0 0, .slice none 0 0, .int .i64 0, .int .i64 0] := by
        have h := Blk.new wx 42 #[.slice (some ⟨wo.heap.size, 0, none⟩) 1 1, .int .i64 fr, .int .i64 (fr + sp), .int .i64 g, .slice none 0 0, .int .i64 0, .string ⟨#[]⟩, .string ⟨#[]⟩, .slice none 0 0, .slice none 0 0, .int .i64 0, .int .i64 0]
        rw [← hwl, szx] at h
        exact h
      rw [← hwx, ← hwl]
      obtain ⟨T, hT⟩ : ∃ T, T = wo.heap.size := ⟨_, rfl⟩
      obtain ⟨Q, hQ⟩ : ∃ Q, Q = wo.heap.size + 1 := ⟨_, rfl⟩
      rw [← hQ, ← hT] at kQ
      rw [← hT] at kT
      rw [← hQ]
      try rw [← hT]
      have HKQ := Lib.hid kQ
      have HBL := Lib.hid (bthen HB.out (bthen bx bl))
      have hch : ChOk wl m.dA m.dn m.dc m.D (qW T fr (fr + sp) g) m.p m.eA m.en m.E m.fA m.fn m.F := by
        have hMl := HM.out.keep (Nat.le_refl _) HBL.out
        have l1 := HLN.out
        have l2 := HR.out.right
        have l3 := HM.out.d.len
        have l4 := HM.out.pi.j.len
        have l5 := HR.out.pol.j4
        exact ⟨⟨hMl.d, qW_in kT, by show (0 : Nat) ≤ 1000; omega, by show f00.leaves.length ≤ 1000; rw [f00_leaves]; decide, by have := l2.2.1; omega⟩, hMl.pi, hMl.e, by omega, by omega, by omega, hMl.f, hMl.fl, hMl.fm, by omega⟩
      obtain ⟨S, hS⟩ : ∃ S, S = strS m.E fr (fr + sp) m.en := ⟨_, rfl⟩
      have hall : ∀ x ∈ S, elC m.D (qW T fr (fr + sp) g) m.p x = true := by
        have l1 := HLN.out
        have l9 := HN1.out
        have h := wit_all (D := m.D) (na := na) (nc := nc) HR.out.pol (show m.p.T.length = n1 + 1 by omega) (show m.E.length = n1 + 1 by omega) HDV.out (qW T fr (fr + sp) g) (qW_used _ _ _ _ _) HG.out (by show fr = _; rw [hfr, HG.out]) (by show fr + sp = _; rw [hfr, hsp, HG.out])
        rw [hS, HN1.out]; exact h
      have hcs : chooseS (strS m.E (qW T fr (fr + sp) g).frm (qW T fr (fr + sp) g).upto m.en) (elC m.D (qW T fr (fr + sp) g) m.p) (pickS (elC m.D (qW T fr (fr + sp) g) m.p) m.F m.p.jn) = (S.map (pickS (elC m.D (qW T fr (fr + sp) g) m.p) m.F m.p.jn), -1, 0) := by
        show chooseS (strS m.E fr (fr + sp) m.en) _ _ = _
        rw [← hS]; exact choose_ok hall
      have H14 := Lib.hid (show Calls Try.prog 14 #[.agg #[.slice m.dA m.dn m.dc, .slice m.mA m.mn m.mc], .agg #[.slice m.p.tA m.p.tn m.p.tc, .slice m.p.jA m.p.jn m.p.jc, .int .i64 m.p.hor], .slice m.eA m.en m.ec, .agg #[.slice (some ⟨T, 0, none⟩) 1 1, .int .i64 fr, .int .i64 (fr + sp), .int .i64 g, .slice none 0 0, .int .i64 0, .string ⟨#[]⟩, .string ⟨#[]⟩, .slice none 0 0, .slice none 0 0, .int .i64 0, .int .i64 0], .slice m.fA m.fn m.fc] wl (ChP wl (S.map (pickS (elC m.D (qW T fr (fr + sp) g) m.p) m.F m.p.jn)) (-1) 0) from choose_any m.dA m.mA m.dn m.dc m.mn m.mc m.D (qW T fr (fr + sp) g) m.p m.eA m.en m.ec m.E m.fA m.fn m.fc m.F wl hch _ _ _ hcs)
      have hlw : m.E.getD n1 0 = low := by rw [HLO.out, List.getD_eq_getElem?_getD, List.getElem?_eq_getElem (by have := HLN.out; omega)]; rfl
      have hchn : Chn (fr + sp) S (min (fr + sp) (max fr low)) := by
        have h := strS_chain m.E fr (fr + sp) (by omega) HR.out.fall m.en (by have := HLN.out; omega)
        rw [if_neg (by have := HN1.out; omega), HN1.out, Nat.add_sub_cancel, hlw] at h
        rw [hS, HN1.out]; exact h
      have hs : (S.length = 0 ∧ decide (low < fr + sp) = false) ∨ (∃ n, S.length = n + 1 ∧ low < fr + sp) := by
        rcases Nat.eq_zero_or_pos S.length with h | h
        · have h2 : S = [] := List.eq_nil_of_length_eq_zero h
          rw [h2] at hchn
          have h4 : fr + sp = min (fr + sp) (max fr low) := hchn
          exact .inl ⟨h, by simp; omega⟩
        · have h2 := chn_lt hchn (by intro e; rw [e] at h; simp at h)
          exact .inr ⟨S.length - 1, by omega, by omega⟩
      have HSC := Lib.hid hs
      clear d0 d1 d2 d3 d4 d5 d6 d7 d8 d9 d10 d11
      obtain ⟨d0, d1, d2, d3, d4, d5, d6, d7, d8, d9, d10, d11⟩ := HCE.out wl HBL.out
      obtain ⟨c0, c1, c2, c3, c4, c5, c6, c7, c8, c9, c10, c11⟩ := q_cells (q := qW T fr (fr + sp) g) HKQ.out
      clear hs hchn hlw hcs hall hch kQ kT bl bx hwl hwx szx hT hQ hfw hsw huw hfr hsp hba hbc hna hnc hgo hg1 hg2 hf0 hf1 hs0 hs1 hS
      go_upto_region 16 with (go_at_call 14; refine H14.out.mono ?_; rintro e w6 ⟨XA, n6, k6, rfl, hn6, hr, hb⟩; have HN6 := Lib.hid hn6; have HB6 := Lib.hid hb; clear hr hb hn6)
      clear d0 d1 d2 d3 d4 d5 d6 d7 d8 d9 d10 d11 c0 c1 c2 c3 c4 c5 c6 c7 c8 c9 c10 c11
      have HKW := Lib.hid (fun W (hW : Below w6.heap.size w6 W) => (q_cells (q := qW T fr (fr + sp) g) (HKQ.out.below (bthen HB6.out hW))).2.2.1)
      rcases HSC.out with ⟨h1, h2⟩ | ⟨n, h1, h2⟩
      · obtain rfl : n6 = 0 := by rw [HN6.out, List.length_map, h1]
        clear h1
        go_wp2_with (go_at_call 8; refine (alive_any _).mono ?_; rintro e w8 ⟨rfl, hb⟩; have HB8 := Lib.hid hb; have u2 := HKW.out w8 hb; clear hb)
        go_ret
        exact ⟨by show Ending.returned (.bool (!decide (low < fr + sp))) = _; rw [h2]; rfl, bthen HB1.out (bthen HBL.out (bthen HB6.out HB8.out))⟩
      · obtain rfl : n6 = n + 1 := by rw [HN6.out, List.length_map, h1]
        clear h1
        go_wp2_with (go_at_call 8; refine (alive_any _).mono ?_; rintro e w8 ⟨rfl, hb⟩; have HB8 := Lib.hid hb; have u2 := HKW.out w8 hb; clear hb)
        go_ret
        exact ⟨by show Ending.returned (.bool (decide (low < fr + sp))) = _; rw [decide_eq_true h2], bthen HB1.out (bthen HBL.out (bthen HB6.out HB8.out))⟩
    case pos =>
    have hie : i < m.E.length := by have := HLN.out; omega
    have hii : (i : Int) < ((n1 + 1 : Nat) : Int) := by omega
    have hi0 : (0 : Int) ≤ (i : Int) := by omega
    obtain ⟨k, hk⟩ : ∃ k, k = min (i + 1) n1 := ⟨_, rfl⟩
    have hkt : k < m.p.T.length := by have := HLN.out; omega
    have hkk : (k : Int) < ((n1 + 1 : Nat) : Int) := by omega
    have hk0 : (0 : Int) ≤ (k : Int) := by omega
    have hmn : (if (n1 : Int) < ((i : Int) + 1) then (n1 : Int) else ((i : Int) + 1)) = (k : Int) := by rw [hk]; split <;> omega
    obtain ⟨tb2, tO2, hTe, t0, t1, t2⟩ := tz_cells (HM.out.pi.t.row.keep (Nat.le_refl _) HB.out) hkt
    obtain ⟨eb2, eo2, hEe, ev⟩ := (HM.out.e.keep (Nat.le_refl _) HB.out).cell hie
    rw [HTE.out.1] at hTe d2
    rw [HTE.out.2.2.1] at hEe d6
    cases hTe
    cases hEe
    obtain ⟨e, he⟩ : ∃ e, e = m.E[i] := ⟨_, rfl⟩
    obtain ⟨gk, hgk⟩ : ∃ g, g = (m.p.T[k]'hkt).g := ⟨_, rfl⟩
    rw [← he] at ev
    rw [← hgk] at t1
    have hok : okGran gk := by rw [hgk]; exact HR.out.pol.tg _ (List.getElem_mem _)
    have hg1 := hok.1
    have HNX := Lib.hid (show e.tmod gk = 0 → DivTo m.E m.p.T n1 (i + 1) from fun h0 a h1 h2 h3 h4 => by
      rcases Nat.lt_or_ge a i with e1 | e1
      · exact HDV.out a h1 h2 e1 h4
      · obtain rfl : a = i := by omega
        rw [← he]
        simp only [← hk]
        rw [← hgk]
        exact h0)
    have HIL := Lib.hid hlt
    clear he hgk hok hlt t0 t2
    go_upto_region 11 with fail
    rw [← hk]
    clear hk hmn
    by_cases h0 : e.tmod gk = 0
    · have hb : (e.tmod gk == 0) = true := by simpa using h0
      have HN2 := Lib.hid (HNX.out h0)
      clear h0
      go_quiet (fail)
      go_wp2_with fail
      go_roundw
      case rel => exact ⟨i + 1, by have := HIL.out; omega, by go_num, HN2, Lib.hid (below_drewN HBA.out _)⟩
      case measure => (have := HIL.out; simp [intOf] <;> omega)
    · have hb : (e.tmod gk == 0) = false := by simpa using h0
      clear h0
      go_quiet (fail)
      go_wp2_with (go_at_call 8; refine (alive_any _).mono ?_; rintro e w8 ⟨rfl, hb⟩; have HB8 := Lib.hid hb; clear hb)
      go_ret
      exact ⟨rfl, bthen HB1.out (bthen HB.out (bthen (below_drewN (Below.refl _ _) _) HB8.out))⟩
end Go.Proofs.Ytgaallkdfcckpaa
