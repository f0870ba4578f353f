/- Same (13), Fits (7). -/
import Derived.Test.YthogafecplhckaaDoorNI
namespace Go.Proofs.YthogafecplhckaaDoor
open Go.RowKit
set_option linter.unusedSimpArgs false
set_option linter.unusedVariables false
/-- How long the lists of entries are. -/
def SizedL (Z : List EZ) : Prop := ∀ z ∈ Z, z.ev.p ≤ 9223372036854775807 ∧ z.ev.x ≤ 9223372036854775807
theorem SameL.take_snoc {A B : List EZ} {k : Nat} (h1 : k < A.length) (h2 : k < B.length) (h : SameL (A.take k) (B.take k)) (hk : SameJ A[k] B[k]) : SameL (A.take (k + 1)) (B.take (k + 1)) := by
  refine SameL.of (by rw [List.length_take, List.length_take]; omega) fun j j1 j2 => ?_
  rw [List.length_take] at j1 j2
  rw [List.getElem_take, List.getElem_take]
  rcases Nat.lt_or_ge j k with h3 | h3
  · have := h.get j (by rw [List.length_take]; omega) (by rw [List.length_take]; omega)
    rw [List.getElem_take, List.getElem_take] at this
    exact this
  · obtain rfl : j = k := by omega
    exact hk
set_option maxRecDepth 100000 in
set_option maxHeartbeats 8000000 in
theorem samel_any (A B : Option Addr) (na ca nb cb : Nat) (Za Zb : List EZ) (w : World) (hA : EntsC w A Za) (hB : EntsC w B Zb) (hna : na = Za.length) (hnb : nb = Zb.length) (ha2 : na ≤ 9223372036854775807) (hb2 : nb ≤ 9223372036854775807) (sa : SizedL Za) (sb : SizedL Zb) (r : Bool) (hr : r = true ↔ SameL Za Zb) :
    Calls Tryd.prog 13 #[.slice A na ca, .slice B nb cb] w fun e w' => e = .returned (.bool r) ∧ Below w.heap.size w w' := by
  have HA := Lib.hid hA
  have HB := Lib.hid hB
  have HNA := Lib.hid hna
  have HNB := Lib.hid hnb
  have HSA := Lib.hid sa
  have HSB := Lib.hid sb
  have HR := Lib.hid hr
  clear hA hB hna hnb sa sb hr
  by_cases hne : na = nb
  case neg =>
    obtain rfl : r = false := by
      rw [Bool.eq_false_iff]
      intro h
      have h2 := (HR.out.1 h).len
      exact hne (by rw [HNA.out, HNB.out, h2])
    have hd : ((na : Int) != (nb : Int)) = true := by simp; omega
    clear HR
    go_enter Tryd.func13, Tryd.ntmps13
    go_wp2_with fail
    go_ret
    exact ⟨rfl, Below.refl _ _⟩
  case pos =>
  subst hne
  go_enter Tryd.func13, Tryd.ntmps13
  go_wp2_with fail
  go_loopw [5, 6] (fun i _ wr => ∃ k : Nat, k ≤ na ∧ i = .int .i64 k ∧ Hid (SameL (Za.take k) (Zb.take k)) ∧ Hid (Below w.heap.size w wr)) (fun i _ _ => na - (intOf i).toNat)
  case atStart => exact ⟨0, by omega, rfl, Lib.hid (by simp [SameL]), Lib.hid (Below.refl _ _)⟩
  case round =>
    obtain ⟨k, hk, rfl, HS, HBW⟩ := hrel
    by_cases hlt : k < na
    · have hka : k < Za.length := by have := HNA.out; omega
      have hkb : k < Zb.length := by have := HNB.out; omega
      obtain ⟨ba, oa, rfl, c0, c1, c2, c3, c4⟩ := (HA.out.keep (Nat.le_refl _) HBW.out).at hka
      obtain ⟨bb, ob, rfl, d0, d1, d2, d3, d4⟩ := (HB.out.keep (Nat.le_refl _) HBW.out).at hkb
      obtain ⟨x, hx⟩ : ∃ x, x = Za[k] := ⟨_, rfl⟩
      obtain ⟨y, hy⟩ : ∃ y, y = Zb[k] := ⟨_, rfl⟩
      have hxm : x ∈ Za := by rw [hx]; exact List.getElem_mem _
      have hym : y ∈ Zb := by rw [hy]; exact List.getElem_mem _
      rw [← hx] at c0 c1 c2 c3 c4
      rw [← hy] at d0 d1 d2 d3 d4
      obtain ⟨q, hq⟩ := bool_of (SameJ x y)
      have hsx := HSA.out x hxm
      have hsy := HSB.out y hym
      have HONE := Lib.hid (fun W (h : Below wr.heap.size wr W) => one_any x y W (((HA.out.good x hxm).keep (Nat.le_refl _) HBW.out).keep (Nat.le_refl _) h) (((HB.out.good y hym).keep (Nat.le_refl _) HBW.out).keep (Nat.le_refl _) h) hsx.1 hsy.1 hsx.2 hsy.2 q hq)
      have HCC := Lib.hid (fun W (h : Below wr.heap.size wr W) => And.intro (And.intro (cell_on h c0) (And.intro (cell_on h c1) (And.intro (cell_on h c2) (And.intro (cell_on h c3) (cell_on h c4))))) (And.intro (cell_on h d0) (And.intro (cell_on h d1) (And.intro (cell_on h d2) (And.intro (cell_on h d3) (cell_on h d4))))))
      have HX := Lib.hid hx
      have HY := Lib.hid hy
      have HQ := Lib.hid hq
      have hk0 : (0 : Int) ≤ (k : Int) := by omega
      have hki : (k : Int) < (na : Int) := by omega
      clear hx hy hxm hym c0 c1 c2 c3 c4 d0 d1 d2 d3 d4 hq hsx hsy
      go_wp2_with fail
      refine wp_region_held_drew (S := fun W => Below wr.heap.size wr W) (by kernel_rfl) (below_drewN (Below.refl _ _) 1) ?_
      intro hHeld
      refine take_want (i := 0) (v := ?v0k1) rfl (by kernel_rfl) (by kernel_rfl) (by kernel_rfl) (fun _ _ _ h => h) (by rfl) ?y0k1 (by assumption) ?r0k1
      case y0k1 => (intro w hSw; go_simp; all_goals with_reducible rfl)
      (try simp only [Act.put, List.setIfInBounds_toArray, List.set_cons_zero, List.set_cons_succ])
      refine take_want (i := 1) (v := ?v1k1) rfl (by kernel_rfl) (by kernel_rfl) (by kernel_rfl) (fun _ _ _ h => h) (by rfl) ?y1k1 (by assumption) ?r1k1
      case y1k1 => (intro w hSw; go_simp; all_goals with_reducible rfl)
      (try simp only [Act.put, List.setIfInBounds_toArray, List.set_cons_zero, List.set_cons_succ])
      refine take_want (i := 2) (v := ?v2k1) rfl (by kernel_rfl) (by kernel_rfl) (by kernel_rfl) (fun _ _ _ h => h) (by rfl) ?y2k1 (by assumption) ?r2k1
      case y2k1 => (intro w hSw; go_simp; all_goals with_reducible rfl)
      (try simp only [Act.put, List.setIfInBounds_toArray, List.set_cons_zero, List.set_cons_succ])
      refine take_want (i := 3) (v := ?v3k1) rfl (by kernel_rfl) (by kernel_rfl) (by kernel_rfl) (fun _ _ _ h => h) (by rfl) ?y3k1 (by assumption) ?r3k1
      case y3k1 => (intro w hSw; obtain ⟨⟨q0, q1, q2, q3, q4⟩, _⟩ := HCC.out w hSw; go_simp; all_goals with_reducible rfl)
      (try simp only [Act.put, List.setIfInBounds_toArray, List.set_cons_zero, List.set_cons_succ])
      refine take_want (i := 4) (v := ?v4k1) rfl (by kernel_rfl) (by kernel_rfl) (by kernel_rfl) (fun _ _ _ h => h) (by rfl) ?y4k1 (by assumption) ?r4k1
      case y4k1 => (intro w hSw; go_simp; all_goals with_reducible rfl)
      (try simp only [Act.put, List.setIfInBounds_toArray, List.set_cons_zero, List.set_cons_succ])
      refine take_want (i := 5) (v := ?v5k1) rfl (by kernel_rfl) (by kernel_rfl) (by kernel_rfl) (fun _ _ _ h => h) (by rfl) ?y5k1 (by assumption) ?r5k1
      case y5k1 => (intro w hSw; go_simp; all_goals with_reducible rfl)
      (try simp only [Act.put, List.setIfInBounds_toArray, List.set_cons_zero, List.set_cons_succ])
      refine take_want (i := 6) (v := ?v6k1) rfl (by kernel_rfl) (by kernel_rfl) (by kernel_rfl) (fun _ _ _ h => h) (by rfl) ?y6k1 (by assumption) ?r6k1
      case y6k1 => (intro w hSw; go_simp; all_goals with_reducible rfl)
      (try simp only [Act.put, List.setIfInBounds_toArray, List.set_cons_zero, List.set_cons_succ])
      refine take_want (i := 7) (v := ?v7k1) rfl (by kernel_rfl) (by kernel_rfl) (by kernel_rfl) (fun _ _ _ h => h) (by rfl) ?y7k1 (by assumption) ?r7k1
      case y7k1 => (intro w hSw; obtain ⟨_, q0, q1, q2, q3, q4⟩ := HCC.out w hSw; go_simp; all_goals with_reducible rfl)
      (try simp only [Act.put, List.setIfInBounds_toArray, List.set_cons_zero, List.set_cons_succ])
      refine wpAnyH_ready (rs := [8]) (by kernel_rfl) (by simp) ?_
      refine AllReadyH.cons rfl (fun K hK => ?_) AllReadyH.nil
      go_simp
      (go_at_call 21; refine (HONE.out _ hHeld).mono ?_; rintro e w2 ⟨rfl, hb2⟩)
      have hb12 : Below wr.heap.size wr w2 := bthen hHeld hb2
      refine hK.out _ _ (hb12) (fun hHeld => ?_)
      clear hK K
      (try simp only [Act.put, List.setIfInBounds_toArray, List.set_cons_zero, List.set_cons_succ])
      refine take_want (i := 9) (v := ?v9k1) rfl (by kernel_rfl) (by kernel_rfl) (by kernel_rfl) (fun _ _ _ h => h) (by rfl) ?y9k1 (by assumption) ?r9k1
      case y9k1 => (intro w hSw; go_simp; all_goals with_reducible rfl)
      (try simp only [Act.put, List.setIfInBounds_toArray, List.set_cons_zero, List.set_cons_succ])
      refine wpAnyH_done (by kernel_rfl) ?_ _
      cases q with
      | true =>
        have HS2 := Lib.hid (HS.out.take_snoc hka hkb (by have := HQ.out.1 rfl; rw [HX.out, HY.out] at this; exact this))
        have HBW2 := Lib.hid (bthen HBW.out hb12)
        clear hHeld hb12 hlt
        go_wp2_with fail
        go_roundw
        case rel => exact ⟨k + 1, by omega, by go_num, HS2, HBW2⟩
        case measure => simp [intOf]; omega
      | false =>
        obtain rfl : r = false := by
          rw [Bool.eq_false_iff]
          intro h
          have h2 := (HR.out.1 h).get k hka hkb
          rw [← HX.out, ← HY.out] at h2
          have := HQ.out.2 h2
          cases this
        have HBW2 := Lib.hid (bthen HBW.out hb12)
        clear hHeld hb12 hlt
        go_wp2_with fail
        go_ret
        exact ⟨rfl, HBW2.out⟩
    · obtain rfl : k = na := by omega
      obtain rfl : r = true := by
        refine HR.out.2 ?_
        have h := HS.out
        rw [List.take_of_length_le (by have := HNA.out; omega), List.take_of_length_le (by have := HNB.out; omega)] at h
        exact h
      have hlt2 : ¬ ((k : Int) < (k : Int)) := by omega
      clear HR HS
      go_wp2_with fail
      go_ret
      exact ⟨rfl, HBW.out⟩
/-- A schema and entries such as are gone through. -/
structure FitsJ (L M : List ByteArray) (Z : List EZ) : Prop where
  l : fitsP L
  m : fitsP M
  right : rightP L M
  n : Z.length ≤ 40
  ev : ∀ z ∈ Z, fitsP z.ev.D ∧ z.ev.X.length ≤ 20
theorem FitsE.nil_iff {L M : List ByteArray} : FitsE L M [] ↔ fitsP L ∧ fitsP M := ⟨fun h => ⟨h.l, h.m⟩, fun h => ⟨h.1, h.2, by simp, fun z hz => by cases hz⟩⟩
theorem FitsE.one_iff {L M : List ByteArray} {z : EV} : FitsE L M [z] ↔ (fitsP L ∧ fitsP M) ∧ fitsP z.D ∧ z.X.length ≤ 20 := ⟨fun h => ⟨⟨h.l, h.m⟩, h.ev z (List.mem_singleton.2 rfl)⟩, fun h => ⟨h.1.1, h.1.2, by simp, fun y hy => by rw [List.mem_singleton.1 hy]; exact h.2⟩⟩
set_option maxRecDepth 100000 in
set_option maxHeartbeats 8000000 in
theorem fitsj_any (A B V : Option Addr) (n c m d l lc : Nat) (L M : List ByteArray) (Z : List EZ) (w : World) (hA : Row w A (texts L)) (hB : Row w B (texts M)) (hV : EntsC w V Z) (hn : n = L.length) (hm : m = M.length) (hl : l = Z.length) (hnc : n ≤ c) (hmd : m ≤ d) (ha : A = none → c = 0) (hb : B = none → d = 0)
    (hL : ∀ s ∈ L, s.size ≤ 9223372036854775807) (hM : ∀ s ∈ M, s.size ≤ 9223372036854775807) (hn2 : n ≤ 9223372036854775807) (hm2 : m ≤ 9223372036854775807) (hl2 : l ≤ 9223372036854775807) (hx2 : SizedL Z) (r : Bool) (hr : r = true ↔ FitsJ L M Z) :
    Calls Tryd.prog 7 #[.agg #[.slice A n c, .slice B m d], .slice V l lc] w fun e w' => e = .returned (.bool r) ∧ Below w.heap.size w w' := by
  obtain ⟨W0, hW0⟩ : ∃ W0, W0 = w.alloc (.cells #[.slice A n c, .slice B m d] 24) := ⟨_, rfl⟩
  have hb0 : Below w.heap.size w W0 := by rw [hW0]; exact bpush (Below.refl _ _) _
  have s0 : W0.cell? ⟨w.heap.size, 0, none⟩ = some (.slice A n c) := by rw [hW0]; exact cell_made rfl rfl
  have s1 : W0.cell? ⟨w.heap.size, 1, none⟩ = some (.slice B m d) := by rw [hW0]; exact cell_made rfl rfl
  have HBOX := Lib.hid (fun W (h : Below W0.heap.size W0 W) => And.intro (cell_on h s0) (cell_on h s1))
  obtain ⟨e0, he0⟩ := bool_of (FitsE L M [])
  have HF0 := Lib.hid (fun W (h : Below W0.heap.size W0 W) => fitsev_any A B none n c m d 0 0 L M [] W ((hA.keep (Nat.le_refl _) hb0).keep (Nat.le_refl _) h) ((hB.keep (Nat.le_refl _) hb0).keep (Nat.le_refl _) h) ⟨.inl rfl, fun z hz => by cases hz⟩ hn hm rfl hn2 hm2 (by omega) (fun z hz => by cases hz) e0 he0)
  have HFZ := Lib.hid (fun (z : EZ) (hz : z ∈ Z) (b : Nat) W (h : Below W0.heap.size W0 W) (hc : Row W (some ⟨b, 0, none⟩) (encEv z.ev)) (q : Bool) (hq : q = true ↔ FitsE L M [z.ev]) => fitsev_any A B (some ⟨b, 0, none⟩) n c m d 1 1 L M [z.ev] W ((hA.keep (Nat.le_refl _) hb0).keep (Nat.le_refl _) h) ((hB.keep (Nat.le_refl _) hb0).keep (Nat.le_refl _) h) ⟨by simpa [cellsEv] using hc, fun y hy => by rw [List.mem_singleton.1 hy]; exact ((hV.good z hz).keep (Nat.le_refl _) hb0).keep (Nat.le_refl _) h⟩ hn hm rfl hn2 hm2 (by omega) (fun y hy => by rw [List.mem_singleton.1 hy]; exact hx2 z hz) q hq)
  obtain ⟨r0, hr0⟩ := bool_of (rightP L M)
  have HRT := Lib.hid (fun W (h : Below W0.heap.size W0 W) (h20 : n ≤ 20 ∧ m ≤ 20) => refright_any A B n c m d L M W ((hA.keep (Nat.le_refl _) hb0).keep (Nat.le_refl _) h) ((hB.keep (Nat.le_refl _) hb0).keep (Nat.le_refl _) h) hn hm hnc hmd ha hb hL hM h20.1 (by omega) r0 hr0)
  have HV := Lib.hid (hV.keep (Nat.le_refl _) hb0)
  have HN := Lib.hid hn
  have HM := Lib.hid hm
  have HL := Lib.hid hl
  have HR := Lib.hid hr
  have HE0 := Lib.hid he0
  have HR0 := Lib.hid hr0
  have HB0 := Lib.hid hb0
  have HW0 := Lib.hid hW0
  have HL2 := Lib.hid hl2
  clear hA hB hV hn hm hl hnc hmd ha hb hL hM hn2 hm2 hl2 hx2 hr hr0 he0 hb0 hW0 s0 s1
  go_enter Tryd.func7, Tryd.ntmps7
  go_upto_region 1 with fail
  rw [← HW0.out]
  clear HW0
  by_cases h40 : 40 < l
  case pos =>
    have d40 : decide ((40 : Int) < (l : Int)) = true := by simp; omega
    obtain rfl : r = false := by
      cases r with
      | false => rfl
      | true => have := (HR.out.1 rfl).n; have := HL.out; omega
    clear h40
    go_wp2_with fail
    go_ret
    exact ⟨rfl, HB0.out⟩
  case neg =>
  have d40 : decide ((40 : Int) < (l : Int)) = false := by simp; omega
  have hl40 : l ≤ 40 := by omega
  clear h40
  go_wp2_with fail
  go_loopw [5, 6] (fun i _ wr => ∃ k : Nat, k ≤ l ∧ i = .int .i64 k ∧ Hid (∀ (j : Nat) (h : j < Z.length), j < k → FitsE L M [Z[j].ev]) ∧ Hid (Below W0.heap.size W0 wr)) (fun i _ _ => l - (intOf i).toNat)
  case atStart => exact ⟨0, Nat.zero_le _, rfl, Lib.hid (fun j _ h => by omega), Lib.hid (Below.refl _ _)⟩
  case round =>
    obtain ⟨k, hk, rfl, HK, HBW⟩ := hrel
    by_cases hlt : k < l
    case pos =>
      have hki : (k : Int) < (l : Int) := by omega
      have hk0 : (0 : Int) ≤ (k : Int) := by omega
      have hkz : k < Z.length := by have := HL.out; omega
      obtain ⟨b, off, rfl, c0, c1, c2, c3, c4⟩ := (HV.out.keep (Nat.le_refl _) HBW.out).at hkz
      obtain ⟨z, hz⟩ : ∃ z, z = Z[k] := ⟨_, rfl⟩
      have hzm : z ∈ Z := by rw [hz]; exact List.getElem_mem _
      rw [← hz] at c2 c3 c4
      obtain ⟨q, hq⟩ := bool_of (FitsE L M [z.ev])
      have HCC := Lib.hid (fun W (h : Below wr.heap.size wr W) => And.intro (cell_on h c2) (And.intro (cell_on h c3) (cell_on h c4)))
      have HFE := Lib.hid (fun W (e : W = wr.drew.alloc (.cells #[.int .i64 z.ev.t, .slice z.ev.E z.ev.p z.ev.q, .slice z.ev.F z.ev.x z.ev.y] 44)) => HFZ.out z hzm wr.heap.size W (by rw [e]; exact bthen HBW.out (bpush (below_drewN (Below.refl _ _) 1) _)) (by rw [e]; exact Row.made rfl rfl) q hq)
      have HZ := Lib.hid hz
      have HQ := Lib.hid hq
      clear hz hzm c0 c1 c2 c3 c4 hq hlt
      go_wp2_with fail
      refine wp_region_held_drew (S := fun W => Below wr.heap.size wr W) (by kernel_rfl) (below_drewN (Below.refl _ _) 1) ?_
      intro hHeld
      refine take_want (i := 0) (v := ?v0k2) rfl (by kernel_rfl) (by kernel_rfl) (by kernel_rfl) (fun _ _ _ h => h) (by rfl) ?y0k2 (by assumption) ?r0k2
      case y0k2 => (intro w hSw; obtain ⟨q0, q1⟩ := HBOX.out w (HBW.out.trans (hSw.mono HBW.out.size)); go_simp; all_goals with_reducible rfl)
      (try simp only [Act.put, List.setIfInBounds_toArray, List.set_cons_zero, List.set_cons_succ])
      refine take_want (i := 1) (v := ?v1k2) rfl (by kernel_rfl) (by kernel_rfl) (by kernel_rfl) (fun _ _ _ h => h) (by rfl) ?y1k2 (by assumption) ?r1k2
      case y1k2 => (intro w hSw; go_simp; all_goals with_reducible rfl)
      (try simp only [Act.put, List.setIfInBounds_toArray, List.set_cons_zero, List.set_cons_succ])
      refine take_want (i := 2) (v := ?v2k2) rfl (by kernel_rfl) (by kernel_rfl) (by kernel_rfl) (fun _ _ _ h => h) (by rfl) ?y2k2 (by assumption) ?r2k2
      case y2k2 => (intro w hSw; go_simp; all_goals with_reducible rfl)
      (try simp only [Act.put, List.setIfInBounds_toArray, List.set_cons_zero, List.set_cons_succ])
      refine take_want (i := 3) (v := ?v3k2) rfl (by kernel_rfl) (by kernel_rfl) (by kernel_rfl) (fun _ _ _ h => h) (by rfl) ?y3k2 (by assumption) ?r3k2
      case y3k2 => (intro w hSw; go_simp; all_goals with_reducible rfl)
      (try simp only [Act.put, List.setIfInBounds_toArray, List.set_cons_zero, List.set_cons_succ])
      refine take_want (i := 4) (v := ?v4k2) rfl (by kernel_rfl) (by kernel_rfl) (by kernel_rfl) (fun _ _ _ h => h) (by rfl) ?y4k2 (by assumption) ?r4k2
      case y4k2 => (intro w hSw; go_simp; all_goals with_reducible rfl)
      (try simp only [Act.put, List.setIfInBounds_toArray, List.set_cons_zero, List.set_cons_succ])
      refine take_want (i := 5) (v := ?v5k2) rfl (by kernel_rfl) (by kernel_rfl) (by kernel_rfl) (fun _ _ _ h => h) (by rfl) ?y5k2 (by assumption) ?r5k2
      case y5k2 => (intro w hSw; obtain ⟨q2, q3, q4⟩ := HCC.out w hSw; go_simp; all_goals with_reducible rfl)
      (try simp only [Act.put, List.setIfInBounds_toArray, List.set_cons_zero, List.set_cons_succ])
      refine wpAnyH_ready (rs := [6]) (by kernel_rfl) (by simp) ?_
      refine AllReadyH.cons rfl (fun K hK => ?_) AllReadyH.nil
      go_simp
      refine hK.out _ _ (bpush hHeld _) (fun hHeld => ?_)
      clear hK K
      (try simp only [Act.put, List.setIfInBounds_toArray, List.set_cons_zero, List.set_cons_succ])
      refine wpAnyH_ready (rs := [7]) (by kernel_rfl) (by simp) ?_
      refine AllReadyH.cons rfl (fun K hK => ?_) AllReadyH.nil
      go_simp
      (go_at_call 22; refine (HFE.out _ rfl).mono ?_; rintro e w2 ⟨rfl, hb2⟩)
      have hb12 : Below wr.heap.size wr w2 := bthen hHeld hb2
      refine hK.out _ _ (hb12) (fun hHeld => ?_)
      clear hK K
      (try simp only [Act.put, List.setIfInBounds_toArray, List.set_cons_zero, List.set_cons_succ])
      refine take_want (i := 8) (v := ?v8k2) rfl (by kernel_rfl) (by kernel_rfl) (by kernel_rfl) (fun _ _ _ h => h) (by rfl) ?y8k2 (by assumption) ?r8k2
      case y8k2 => (intro w hSw; go_simp; all_goals with_reducible rfl)
      (try simp only [Act.put, List.setIfInBounds_toArray, List.set_cons_zero, List.set_cons_succ])
      refine wpAnyH_done (by kernel_rfl) ?_ _
      cases q with
      | true =>
        have HK2 := Lib.hid (show ∀ (j : Nat) (h : j < Z.length), j < k + 1 → FitsE L M [Z[j].ev] from fun j hj h => by
          rcases Nat.lt_or_ge j k with h1 | h1
          · exact HK.out j hj h1
          · obtain rfl : j = k := by omega
            rw [← HZ.out]; exact HQ.out.1 rfl)
        have HBW2 := Lib.hid (bthen HBW.out hb12)
        clear hHeld hb12
        go_wp2_with fail
        go_roundw
        case rel => exact ⟨k + 1, by omega, by go_num, HK2, HBW2⟩
        case measure => simp [intOf]; omega
      | false =>
        obtain rfl : r = false := by
          rw [Bool.eq_false_iff]
          intro h
          have h2 := HR.out.1 h
          have := HQ.out.2 (FitsE.one_iff.2 ⟨⟨h2.l, h2.m⟩, by rw [HZ.out]; exact h2.ev _ (List.getElem_mem _)⟩)
          cases this
        have HBW2 := Lib.hid (bthen HBW.out hb12)
        clear hHeld hb12
        go_wp2_with fail
        go_ret
        exact ⟨rfl, bthen HB0.out HBW2.out⟩
    case neg =>
      obtain rfl : k = l := by omega
      have hlt2 : ¬ ((k : Int) < (k : Int)) := by omega
      have HEV := Lib.hid (show ∀ z ∈ Z, FitsE L M [z.ev] from fun z hz => by
        obtain ⟨j, hj, rfl⟩ := List.getElem_of_mem hz
        exact HK.out j hj (by have := HL.out; omega))
      obtain ⟨q0, q1⟩ := HBOX.out wr HBW.out
      have HFF := Lib.hid (HF0.out wr HBW.out)
      clear HK hlt
      go_upto_region 10 with (go_at_call 22; refine HFF.out.mono ?_; rintro e w2 ⟨rfl, hb2⟩; have HB2 := Lib.hid (bthen HBW.out hb2); clear hb2)
      clear q0 q1
      cases e0 with
      | false =>
        obtain rfl : r = false := by
          rw [Bool.eq_false_iff]
          intro h
          have h2 := HR.out.1 h
          have := HE0.out.2 (FitsE.nil_iff.2 ⟨h2.l, h2.m⟩)
          cases this
        go_wp2_with fail
        go_ret
        exact ⟨rfl, bthen HB0.out HB2.out⟩
      | true =>
        have hff := FitsE.nil_iff.1 (HE0.out.1 rfl)
        have h20 : n ≤ 20 ∧ m ≤ 20 := by have h1 := hff.1.1; have h2 := hff.2.1; have := HN.out; have := HM.out; omega
        obtain rfl : r = r0 := by
          rw [Bool.eq_iff_iff]
          rw [HR.out, HR0.out]
          exact ⟨fun h => h.right, fun h => ⟨hff.1, hff.2, h, by have := HL.out; omega, fun z hz => (FitsE.one_iff.1 (HEV.out z hz)).2⟩⟩
        obtain ⟨q0, q1⟩ := HBOX.out w2 HB2.out
        have HRR := Lib.hid (HRT.out w2 HB2.out h20)
        clear hff h20
        go_wp2_with (go_at_call 23; refine HRR.out.mono ?_; rintro e w3 ⟨rfl, hb3⟩; have HB3 := Lib.hid (bthen HB2.out hb3); clear hb3)
        go_ret
        exact ⟨rfl, bthen HB0.out HB3.out⟩
end Go.Proofs.YthogafecplhckaaDoor
