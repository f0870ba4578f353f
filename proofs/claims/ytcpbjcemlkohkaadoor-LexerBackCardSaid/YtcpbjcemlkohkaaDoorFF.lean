/- LexerTells' walk; what the laid variables give. -/
import Derived.Test.YtcpbjcemlkohkaaDoorEE
import Derived.LaidLaws
import Derived.LaidMore
import Derived.Lay
namespace Go.Proofs.YtcpbjcemlkohkaaDoor
open Go.RowKit
set_option linter.unusedSimpArgs false
set_option linter.unusedVariables false
def laids : List (String × DataW Unit) := Rows.lexerTellsRow.laid
theorem er_of_laid {W : World} (h : laidMet Tryd.prog laids W) : Er W := by
  obtain ⟨ps, h, _⟩ := h
  obtain ⟨_, _, _, _, _, _, _, _, _, _, h, _⟩ := h
  obtain ⟨_, _, _, _, _, _, _, _, _, _, h, _⟩ := h
  obtain ⟨_, _, _, _, _, _, _, _, _, _, h, _⟩ := h
  obtain ⟨_, _, _, _, _, _, _, _, _, _, h, _⟩ := h
  obtain ⟨g, t, cs, fuel, p, q, hg, ht, hv, hd, _, _⟩ := h
  obtain rfl := Option.some.inj ((show Tryd.prog.globalNamed "strconv.ErrRange" = some 4 by kernel_rfl).symm.trans hg)
  obtain rfl := Option.some.inj ((show (Tryd.prog.globals[4]?).map (·.type) = some 61 by kernel_rfl).symm.trans ht)
  obtain ⟨_, u, v, hc, _⟩ := iface_of_trod Tryd.underlying61 hd
  have h0 := World.var?_cell hg hv 0
  refine ⟨.iface u v, ?_, .inr ⟨u, v, rfl⟩⟩
  rw [h0]
  have : cs.toList[0]? = some (.iface u v) := by rw [hc]; rfl
  simpa using this
set_option maxRecDepth 100000 in
set_option maxHeartbeats 16000000 in
theorem tells_walk (s : ByteArray) (w : World) (hE : Er w) (hs : s.size ≤ 9223372036854775807) :
    Calls Tryd.prog 3 #[.string s] w fun e w' => e = .returned (.bool true) ∧ Below w.heap.size w w' := by
  have HE := Lib.hid hE
  obtain ⟨z, hz⟩ : ∃ z, s.size = z := ⟨_, rfl⟩
  clear hE
  by_cases hbig : 500 < z
  · have hb : (500 : Int) < (z : Int) := by omega
    clear hbig
    go_enter Tryd.func3, Tryd.ntmps3
    go_wp2_with fail
    refine (alive_any _ HE.out).mono ?_
    rintro e w1 ⟨rfl, hb1⟩
    go_wp2_with fail
    go_ret
    exact ⟨rfl, hb1⟩
  · have hb : ¬ (500 : Int) < (z : Int) := by omega
    clear hbig
    go_enter Tryd.func3, Tryd.ntmps3
    go_wp2_with fail
    refine (tokens_any s _ HE.out hs).mono ?_
    rintro e w1 ⟨h, hb1⟩
    have HB1 := Lib.hid hb1
    clear hb1
    rcases h with ⟨L, A, c, hL, hl4, rfl, hrow, hc, hcm, hn⟩ | ⟨hL, rfl⟩
    · have HL := Lib.hid hL
      have HR := Lib.hid hrow
      obtain ⟨l, hl⟩ : ∃ l, L.length = l := ⟨_, rfl⟩
      rw [hl]
      have HLL := Lib.hid hl
      have hl9 : l ≤ 400 := by omega
      clear hL hrow hl hn hl4
      go_wp2_with fail
      refine (reftokens_any s _ hs).mono ?_
      rintro e w2 ⟨h, hb2⟩
      have HB2 := Lib.hid (bthen HB1.out hb2)
      have HR2 := Lib.hid (HR.out.keep (Nat.le_refl _) hb2)
      clear hb2
      rcases h with ⟨M, B, d, hM, hm4, rfl, hrow, hd, hdm, hm⟩ | ⟨hM, rfl⟩
      · obtain rfl : L = M := Option.some.inj (HL.out.symm.trans hM)
        rw [HLL.out]
        have HS := Lib.hid hrow
        clear hrow hM hm hm4
        go_wp2_with fail
        refine (alive_any _ (HE.out.keep HB2.out)).mono ?_
        rintro e w3 ⟨rfl, hb3⟩
        have HB3 := Lib.hid (bthen HB2.out hb3)
        have HR3 := Lib.hid (HR2.out.keep (Nat.le_refl _) hb3)
        have HS3 := Lib.hid (HS.out.keep (Nat.le_refl _) hb3)
        clear hb3
        go_wp2_with fail
        refine (refsame_any A B l c l d L L _ HR3.out HS3.out HLL.out.symm HLL.out.symm (by omega) (by omega) true ⟨fun _ => rfl, fun _ => rfl⟩).mono ?_
        rintro e w4 ⟨rfl, hb4⟩
        go_wp2_with fail
        go_ret
        exact ⟨rfl, bthen HB3.out hb4⟩
      · rw [hM] at HL; exact absurd HL.out (by simp)
    · have HL := Lib.hid hL
      clear hL
      go_wp2_with fail
      refine (reftokens_any s _ hs).mono ?_
      rintro e w2 ⟨h, hb2⟩
      have HB2 := Lib.hid (bthen HB1.out hb2)
      clear hb2
      rcases h with ⟨M, B, d, hM, hm4, rfl, hrow, hd, hdm, hm⟩ | ⟨hM, rfl⟩
      · rw [hM] at HL; exact absurd HL.out (by simp)
      · clear hM
        go_wp2_with fail
        refine (alive_any _ (HE.out.keep HB2.out)).mono ?_
        rintro e w3 ⟨rfl, hb3⟩
        have HB3 := Lib.hid (bthen HB2.out hb3)
        clear hb3
        go_wp2_with fail
        refine (refsame_any none none 0 0 0 0 [] [] _ (.inl rfl) (.inl rfl) rfl rfl (by omega) (by omega) true ⟨fun _ => rfl, fun _ => rfl⟩).mono ?_
        rintro e w4 ⟨rfl, hb4⟩
        go_wp2_with fail
        go_ret
        exact ⟨rfl, bthen HB3.out hb4⟩
end Go.Proofs.YtcpbjcemlkohkaaDoor
