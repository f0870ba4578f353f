/- files (45). -/
import Derived.Test.YtgaallkdfcckpaaSN
import Derived.BigQuiet
import Derived.Deep.RegionHeld3
namespace Go.Proofs.Ytgaallkdfcckpaa
open Go.RowKit Go.Maps Go.Lib Go.Shelf
set_option linter.unusedSimpArgs false
set_option linter.unusedVariables false
structure FilesOk (p : PZ) (F : List SZ) : Prop where
  each : ∀ z ∈ F, FileOk p z
  apart : ∀ (a b : Nat) (hb : b < F.length) (hab : a < b), ¬ ((F[a]'(by omega)).tier = F[b].tier ∧ (F[a]'(by omega)).proj = F[b].proj)
  len : F.length ≤ 40
def ApartTo (F : List SZ) (i k : Nat) : Prop := ∀ (a : Nat) (hi : i < F.length) (ha : a < F.length), a < k → ¬ (F[a].tier = F[i].tier ∧ F[a].proj = F[i].proj)
set_option maxRecDepth 100000 in
set_option maxHeartbeats 64000000 in
theorem files45 (m : MZ) (w : World) (hm : MIn w m) : Calls Try.prog 45 #[.agg #[.slice m.dA m.dn m.dc, .slice m.mA m.mn m.mc, .slice m.p.tA m.p.tn m.p.tc, .slice m.p.jA m.p.jn m.p.jc, .int .i64 m.p.hor, .int .i64 m.now, .slice m.eA m.en m.ec, .int .i64 m.cnt, .slice m.sA m.sn m.sc, .slice m.fA m.fn m.fc, .string m.jr, .int .i64 m.nxt]] w (BoolB w (FilesOk m.p m.F)) := by
  obtain ⟨w1, hw1⟩ : ∃ w1, w1 = w.alloc (.cells #[.slice m.dA m.dn m.dc, .slice m.mA m.mn m.mc, .slice m.p.tA m.p.tn m.p.tc, .slice m.p.jA m.p.jn m.p.jc, .int .i64 m.p.hor, .int .i64 m.now, .slice m.eA m.en m.ec, .int .i64 m.cnt, .slice m.sA m.sn m.sc, .slice m.fA m.fn m.fc, .string m.jr, .int .i64 m.nxt] 34) := ⟨_, rfl⟩
  have hb1 : Below w.heap.size w w1 := by rw [hw1]; exact bpush (Below.refl _ _) _
  have kM : Blk w1 w.heap.size 34 #[.slice m.dA m.dn m.dc, .slice m.mA m.mn m.mc, .slice m.p.tA m.p.tn m.p.tc, .slice m.p.jA m.p.jn m.p.jc, .int .i64 m.p.hor, .int .i64 m.now, .slice m.eA m.en m.ec, .int .i64 m.cnt, .slice m.sA m.sn m.sc, .slice m.fA m.fn m.fc, .string m.jr, .int .i64 m.nxt] := by rw [hw1]; exact Blk.new _ _ _
  have HB1 := Lib.hid hb1
  obtain ⟨G, hGe⟩ : ∃ G, G = w.heap.size := ⟨_, rfl⟩
  rw [← hGe] at kM
  have HK := Lib.hid kM
  have HW1 := Lib.hid hw1
  have HGE := Lib.hid hGe
  have HM := Lib.hid (hm.keep (Nat.le_refl _) hb1)
  obtain ⟨fA, hfA⟩ : ∃ y, y = m.fA := ⟨_, rfl⟩
  obtain ⟨fn, hfn⟩ : ∃ y, y = m.fn := ⟨_, rfl⟩
  obtain ⟨fc, hfc⟩ : ∃ y, y = m.fc := ⟨_, rfl⟩
  obtain ⟨jr, hjr⟩ : ∃ y, y = m.jr := ⟨_, rfl⟩
  have HCE := Lib.hid (fun W (hW : Below w1.heap.size w1 W) => show W.cell? ⟨G, 2, none⟩ = some (.slice m.p.tA m.p.tn m.p.tc) ∧ W.cell? ⟨G, 3, none⟩ = some (.slice m.p.jA m.p.jn m.p.jc) ∧ W.cell? ⟨G, 4, none⟩ = some (.int .i64 m.p.hor) ∧ W.cell? ⟨G, 9, none⟩ = some (.slice fA fn fc) ∧ W.cell? ⟨G, 10, none⟩ = some (.string jr) from by
    rw [hfA, hfn, hfc, hjr]
    obtain ⟨-, -, h2, h3, h4, -, -, -, -, h9, h10, -⟩ := m_cells (HK.out.below hW)
    exact ⟨h2, h3, h4, h9, h10⟩)
  have HFR := Lib.hid (show Row w1 fA (cellsS m.F) by rw [hfA]; exact HM.out.f)
  have HFN := Lib.hid (show fn = m.F.length by rw [hfn]; exact HM.out.fl)
  have hfm : fn ≤ 9223372036854775807 := by rw [hfn]; exact HM.out.fm
  have HJS := Lib.hid (show jr.size ≤ 9223372036854775807 by rw [hjr]; exact HM.out.js)
  have HF67 := Lib.hid (fun (z : SZ) (hz : z ∈ m.F) W (hW : Below w1.heap.size w1 W) => file67 m.p z W (HM.out.pi.keep (Nat.le_refl _) hW) (HM.out.fs z hz))
  obtain ⟨d2, d3, d4, d9, d10⟩ := HCE.out w1 (Below.refl _ _)
  clear hw1 hb1 kM hm hGe hfA hfn hfc hjr
  go_enter Try.func45, Try.ntmps45
  go_upto_region 1 with fail
  rw [← HW1.out, ← HGE.out]
  go_upto_region 2 with fail
  clear d2 d3 d4 d9 d10
  go_loopw [3] (fun vi wr => ∃ i : Nat, i ≤ fn ∧ vi = .int .i64 i ∧ Hid (∀ (a : Nat) (h : a < m.F.length), a < i → FileOk m.p m.F[a] ∧ ApartTo m.F a a) ∧ Hid (Below w1.heap.size w1 wr)) (fun vi _ => fn - (intOf vi).toNat)
  case atStart => exact ⟨0, by omega, rfl, Lib.hid (fun a _ h => by omega), Lib.hid (Below.refl _ _)⟩
  case round =>
    obtain ⟨i, hi, rfl, HA, HB⟩ := hrel
    obtain ⟨wo, rfl⟩ : ∃ wo : World, wo = wr := ⟨_, rfl⟩
    obtain ⟨d2, d3, d4, d9, d10⟩ := HCE.out wo HB.out
    by_cases hlt : i < fn
    case neg =>
      obtain rfl : i = fn := by omega
      have hge : ¬ (i : Int) < (i : Int) := by omega
      have HNM := Lib.hid (name68 jr wo HJS.out)
      clear hlt
      by_cases h40 : i ≤ 40
      case neg =>
        have e0 : decide ((i : Int) ≤ 40) = false := by simp; omega
        go_wp2_with (go_at_call 68; refine HNM.out.mono ?_; rintro e w2 ⟨⟨r, rfl, -⟩, rfl⟩)
        go_ret
        exact ⟨⟨_, rfl, fun h => by cases h⟩, bthen HB1.out HB.out⟩
      have e0 : decide ((i : Int) ≤ 40) = true := by simp; omega
      have HOK := Lib.hid (show FilesOk m.p m.F from ⟨fun z hz => by
          obtain ⟨a, ha, rfl⟩ := List.mem_iff_getElem.1 hz
          exact (HA.out a ha (by have := HFN.out; omega)).1, fun a b hb hab => (HA.out b hb (by have := HFN.out; omega)).2 a hb (by omega) hab, by have := HFN.out; omega⟩)
      go_upto_region 13 with (go_at_call 68; refine HNM.out.mono ?_; rintro e w2 ⟨⟨r, rfl, -⟩, rfl⟩)
      cases r with
      | false =>
        go_wp2_with fail
        go_ret
        exact ⟨⟨_, rfl, fun h => by cases h⟩, bthen HB1.out HB.out⟩
      | true =>
      by_cases n1 : jr = ⟨#[109, 97, 110, 105, 102, 101, 115, 116]⟩
      · subst n1
        go_wp2_with fail
        go_ret
        exact ⟨⟨_, rfl, fun h => by cases h⟩, bthen HB1.out HB.out⟩
      have n1b := str_ne_lit (l := [109, 97, 110, 105, 102, 101, 115, 116]) n1
      have n1c : (jr.toList != [109, 97, 110, 105, 102, 101, 115, 116]) = true := by simp only [bne, n1b]; rfl
      by_cases n2 : jr = ⟨#[109, 97, 110, 105, 102, 101, 115, 116, 46, 110, 101, 119]⟩
      · subst n2
        clear n1
        go_wp2_with fail
        go_ret
        exact ⟨⟨_, rfl, fun h => by cases h⟩, bthen HB1.out HB.out⟩
      have n2b := str_ne_lit (l := [109, 97, 110, 105, 102, 101, 115, 116, 46, 110, 101, 119]) n2
      have n2c : (jr.toList != [109, 97, 110, 105, 102, 101, 115, 116, 46, 110, 101, 119]) = true := by simp only [bne, n2b]; rfl
      clear n1 n2
      go_wp2_with fail
      go_ret
      exact ⟨⟨_, rfl, fun _ => HOK.out⟩, bthen HB1.out HB.out⟩
    case pos =>
    have hiz : i < m.F.length := by have := HFN.out; omega
    have hii : (i : Int) < (fn : Int) := by omega
    have hi0 : (0 : Int) ≤ (i : Int) := by omega
    obtain ⟨b, off, hAe, q0, q1, q2, q3⟩ := sz_cells (HFR.out.keep (Nat.le_refl _) HB.out) hiz
    obtain ⟨z, hz⟩ : ∃ z, z = m.F[i] := ⟨_, rfl⟩
    rw [← hz] at q0 q1 q2 q3
    have HZE := Lib.hid hz
    have HZC := Lib.hid (fun W (hW : Below wo.heap.size wo W) => And.intro (HCE.out W (bthen HB.out hW)) (And.intro (cell_on hW q0) (And.intro (cell_on hW q1) (And.intro (cell_on hW q2) (cell_on hW q3)))))
    have HCL := Lib.hid (fun W (hW : Below wo.heap.size wo W) => HF67.out z (by rw [hz]; exact List.getElem_mem _) W (bthen HB.out hW))
    subst hAe
    clear hz hlt
    have HIZ := Lib.hid hiz
    go_upto_region 4 with fail
    go_region_held3 (fun W => (W.cell? ⟨G, 2, none⟩ = some (.slice m.p.tA m.p.tn m.p.tc) ∧ W.cell? ⟨G, 3, none⟩ = some (.slice m.p.jA m.p.jn m.p.jc) ∧ W.cell? ⟨G, 4, none⟩ = some (.int .i64 m.p.hor) ∧ W.cell? ⟨G, 9, none⟩ = some (.slice (some ⟨b, off, none⟩) fn fc) ∧ W.cell? ⟨b, off + i * 4, none⟩ = some (.string z.name) ∧ W.cell? ⟨b, off + i * 4 + 1, none⟩ = some (.int .i64 z.tier) ∧ W.cell? ⟨b, off + i * 4 + 2, none⟩ = some (.int .i64 z.proj) ∧ W.cell? ⟨b, off + i * 4 + 3, none⟩ = some (.int .i64 z.rows)) ∧ Below wo.heap.size wo W)
      (first
        | (obtain ⟨⟨x2, x3, x4, x9, x10⟩, y0, y1, y2, y3⟩ := HZC.out _ (below_drewN (Below.refl _ _) 1); exact ⟨⟨x2, x3, x4, x9, y0, y1, y2, y3⟩, below_drewN (Below.refl _ _) 1⟩)
        | (obtain ⟨⟨x2, x3, x4, x9, x10⟩, y0, y1, y2, y3⟩ := HZC.out _ hbz; exact ⟨⟨x2, x3, x4, x9, y0, y1, y2, y3⟩, hbz⟩))
      (first
        | (go_at_call 67; refine (HCL.out _ (below_drewN (Below.refl _ _) 1)).mono ?_; rintro e w7 ⟨⟨r, rfl, hr⟩, hb⟩; have hbz : Below wo.heap.size wo w7 := (below_drewN (Below.refl _ _) 1).trans (hb.mono (Nat.le_refl _))))
    have HBZ := Lib.hid hbz
    have HR := Lib.hid hr
    have HB7 := Lib.hid (bthen HB.out hbz)
    clear hb hbz hr q0 q1 q2 q3 d2 d3 d4 d9 d10
    obtain ⟨⟨d2, d3, d4, d9, d10⟩, q0, q1, q2, q3⟩ := HZC.out w7 HBZ.out
    have HZC2 := Lib.hid (fun W (hW : Below w7.heap.size w7 W) => show W.cell? ⟨G, 9, none⟩ = some (.slice (some ⟨b, off, none⟩) fn fc) ∧ W.cell? ⟨b, off + i * 4, none⟩ = some (.string z.name) ∧ W.cell? ⟨b, off + i * 4 + 1, none⟩ = some (.int .i64 z.tier) ∧ W.cell? ⟨b, off + i * 4 + 2, none⟩ = some (.int .i64 z.proj) from by
      exact ⟨cell_on hW d9, cell_on hW q0, cell_on hW q1, cell_on hW q2⟩)
    clear d2 d3 d4 q1 q2 q3
    go_upto_region 5 with fail
    cases r with
    | false =>
      go_quiet (fail)
      go_wp2_with fail
      go_ret
      exact ⟨⟨_, rfl, fun h => by cases h⟩, bthen HB1.out (HB7.out.trans (below_drewN (Below.refl _ _) _))⟩
    | true =>
    by_cases hj : z.name = jr
    · subst hj
      go_quiet (fail)
      go_wp2_with fail
      go_ret
      exact ⟨⟨_, rfl, fun h => by cases h⟩, bthen HB1.out (HB7.out.trans (below_drewN (Below.refl _ _) _))⟩
    have hjb := str_ne hj
    have HFO := Lib.hid (HR.out rfl)
    clear hj
    go_quiet (fail)
    clear d9 d10 q0
    go_upto_region 8 with fail
    go_loopw [5] (fun vk wr => ∃ k : Nat, k ≤ i ∧ vk = .int .i64 k ∧ Hid (ApartTo m.F i k) ∧ Hid (Below w7.heap.size w7 wr)) (fun vk _ => i - (intOf vk).toNat)
    case atStart => exact ⟨0, by omega, rfl, Lib.hid (fun a _ _ h => by omega), Lib.hid (below_drewN (Below.refl _ _) _)⟩
    case round =>
      obtain ⟨k, hk, rfl, HAP, HBK⟩ := hrel
      obtain ⟨wi, rfl⟩ : ∃ wi : World, wi = wr := ⟨_, rfl⟩
      by_cases hltk : k < i
      case neg =>
        obtain rfl : k = i := by omega
        have hgek : ¬ (k : Int) < (k : Int) := by omega
        have HA2 := Lib.hid (show ∀ (a : Nat) (h : a < m.F.length), a < k + 1 → FileOk m.p m.F[a] ∧ ApartTo m.F a a from fun a h ha => by
          rcases Nat.lt_or_ge a k with e | e
          · exact HA.out a h e
          · obtain rfl : a = k := by omega
            exact ⟨by rw [← HZE.out]; exact HFO.out, HAP.out⟩)
        clear hltk
        go_wp2_with fail
        go_roundw
        case rel => exact ⟨k + 1, by omega, by go_num, HA2, Lib.hid (bthen HB7.out HBK.out)⟩
        case measure => simp [intOf]; omega
      case pos =>
      have hkz : k < m.F.length := by have := HIZ.out; omega
      have hki : (k : Int) < (i : Int) := by omega
      have hkf : (k : Int) < (fn : Int) := by omega
      have hk0 : (0 : Int) ≤ (k : Int) := by omega
      obtain ⟨d9, q0, q1, q2⟩ := HZC2.out wi HBK.out
      obtain ⟨b', off', hAe, r0, r1, r2, r3⟩ := sz_cells (HFR.out.keep (Nat.le_refl _) (bthen HB7.out HBK.out)) hkz
      cases hAe
      obtain ⟨yn, hyn⟩ : ∃ y, y = (m.F[k]'hkz).name := ⟨_, rfl⟩
      obtain ⟨yt, hyt⟩ : ∃ y, y = (m.F[k]'hkz).tier := ⟨_, rfl⟩
      obtain ⟨yj, hyj⟩ : ∃ y, y = (m.F[k]'hkz).proj := ⟨_, rfl⟩
      rw [← hyn] at r0
      rw [← hyt] at r1
      rw [← hyj] at r2
      have HYV := Lib.hid (And.intro hyt hyj)
      clear hyn hyt hyj r3 hltk
      by_cases h1 : yn = z.name
      · rw [h1] at r0
        clear h1
        go_upto_region 10 with fail
        go_quiet (fail)
        go_wp2_with fail
        go_ret
        exact ⟨⟨_, rfl, fun h => by cases h⟩, bthen HB1.out (bthen HB7.out (HBK.out.trans (below_drewN (Below.refl _ _) _)))⟩
      have h1b := str_ne h1
      clear h1
      by_cases h2 : yt = z.tier
      · by_cases h3 : yj = z.proj
        · have h2b : (yt == z.tier) = true := by simp [h2]
          have h3b : (yj == z.proj) = true := by simp [h3]
          clear h2 h3
          go_upto_region 10 with fail
          go_quiet (fail)
          go_wp2_with fail
          go_ret
          exact ⟨⟨_, rfl, fun h => by cases h⟩, bthen HB1.out (bthen HB7.out (HBK.out.trans (below_drewN (Below.refl _ _) _)))⟩
        · have h2b : (yt == z.tier) = true := by simp [h2]
          have h3b : (yj == z.proj) = false := by simp [h3]
          have HAP2 := Lib.hid (show ApartTo m.F i (k + 1) from fun a hi ha hak => by
            rcases Nat.lt_or_ge a k with e | e
            · exact HAP.out a hi ha e
            · obtain rfl : a = k := by omega
              rintro ⟨-, e2⟩
              exact h3 (by rw [HYV.out.2, HZE.out]; exact e2))
          clear h2 h3
          go_upto_region 10 with fail
          go_quiet (fail)
          go_wp2_with fail
          go_roundw
          case rel => exact ⟨k + 1, by omega, by go_num, HAP2, Lib.hid (HBK.out.trans (below_drewN (Below.refl _ _) _))⟩
          case measure => simp [intOf]; omega
      · have h2b : (yt == z.tier) = false := by simp [h2]
        have HAP2 := Lib.hid (show ApartTo m.F i (k + 1) from fun a hi ha hak => by
          rcases Nat.lt_or_ge a k with e | e
          · exact HAP.out a hi ha e
          · obtain rfl : a = k := by omega
            rintro ⟨e1, -⟩
            exact h2 (by rw [HYV.out.1, HZE.out]; exact e1))
        clear h2
        go_upto_region 10 with fail
        go_quiet (fail)
        go_wp2_with fail
        go_roundw
        case rel => exact ⟨k + 1, by omega, by go_num, HAP2, Lib.hid (HBK.out.trans (below_drewN (Below.refl _ _) _))⟩
        case measure => simp [intOf]; omega
end Go.Proofs.Ytgaallkdfcckpaa
