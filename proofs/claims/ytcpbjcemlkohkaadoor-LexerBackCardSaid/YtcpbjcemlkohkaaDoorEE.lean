/- The live question. -/
import Derived.Test.YtcpbjcemlkohkaaDoorDD
namespace Go.Proofs.YtcpbjcemlkohkaaDoor
open Go.RowKit
set_option linter.unusedSimpArgs false
set_option linter.unusedVariables false
def liveS : ByteArray := ⟨#[115, 117, 109, 40, 120, 95, 49, 41, 60, 45, 52, 48, 44, 32, 34, 97, 32, 98, 34]⟩
def liveL : List Tok := [(0, ⟨#[115, 117, 109]⟩, 0), (3, ⟨#[40]⟩, 0), (0, ⟨#[120, 95, 49]⟩, 0), (3, ⟨#[41]⟩, 0), (3, ⟨#[60]⟩, 0), (1, ⟨#[45, 52, 48]⟩, -40), (3, ⟨#[44]⟩, 0), (2, ⟨#[97, 32, 98]⟩, 0)]
theorem live_toks : lexT liveS = some liveL := by decide +kernel
theorem live_text : bsOf (textL liveL) = ⟨#[115, 117, 109, 32, 40, 32, 120, 95, 49, 32, 41, 32, 60, 32, 45, 52, 48, 32, 44, 32, 34, 97, 32, 98, 34]⟩ := by decide +kernel
theorem live_small : smallT liveL := by unfold smallT; decide +kernel
set_option maxRecDepth 100000 in
set_option maxHeartbeats 16000000 in
theorem alive_any (w : World) (hE : Er w) : Calls Tryd.prog 7 #[] w fun e w' => e = .returned (.bool true) ∧ Below w.heap.size w w' := by
  have HE := Lib.hid hE
  clear hE
  go_enter Tryd.func7, Tryd.ntmps7
  go_wp2_with fail
  refine (tokens_any liveS _ HE.out (by decide)).mono ?_
  rintro e w1 ⟨h, hb⟩
  have HB := Lib.hid hb
  rcases h with ⟨L, A, c, hL, hl4, rfl, hrow, hc, hcm, hn⟩ | ⟨hL, rfl⟩
  case inr => rw [live_toks] at hL; cases hL
  case inl =>
  obtain rfl : liveL = L := Option.some.inj (live_toks.symm.trans hL)
  have HROW := Lib.hid hrow
  obtain ⟨b, o, rfl, x0, x1, x2⟩ := hrow.at3 (k := 0) (by decide)
  obtain ⟨b', o', e', y0, y1, y2⟩ := hrow.at3 (k := 5) (by decide)
  cases e'
  obtain ⟨b', o', e', z0, z1, z2⟩ := hrow.at3 (k := 7) (by decide)
  cases e'
  replace x0 : w1.cell? ⟨b, o, none⟩ = some (.int .i64 0) := x0
  replace x1 : w1.cell? ⟨b, o + 1, none⟩ = some (.string ⟨#[115, 117, 109]⟩) := x1
  replace x2 : w1.cell? ⟨b, o + 2, none⟩ = some (.int .i64 0) := x2
  replace y0 : w1.cell? ⟨b, o + 15, none⟩ = some (.int .i64 1) := y0
  replace y1 : w1.cell? ⟨b, o + 16, none⟩ = some (.string ⟨#[45, 52, 48]⟩) := y1
  replace y2 : w1.cell? ⟨b, o + 17, none⟩ = some (.int .i64 (-40)) := y2
  replace z0 : w1.cell? ⟨b, o + 21, none⟩ = some (.int .i64 2) := z0
  replace z1 : w1.cell? ⟨b, o + 22, none⟩ = some (.string ⟨#[97, 32, 98]⟩) := z1
  replace z2 : w1.cell? ⟨b, o + 23, none⟩ = some (.int .i64 0) := z2
  have hl8 : liveL.length = 8 := rfl
  rw [hl8]
  clear hb hL hrow hl4 hl8 hc hcm hn
  go_wp2_with fail
  refine (text_laws (some ⟨b, o, none⟩) 8 c liveL _ HROW.out rfl (by omega) live_small).mono ?_
  rintro e w2 ⟨rfl, hb⟩
  rw [live_text]
  have HB2 := Lib.hid (bthen HB.out hb)
  clear hb
  go_wp2_with fail
  go_ret
  exact ⟨rfl, HB2.out⟩
end Go.Proofs.YtcpbjcemlkohkaaDoor
