/- Stats (11). -/
import Derived.Test.YtbccjkjibffbkaaKE
import Derived.Test.YtbccjkjibffbkaaHW
namespace Go.Proofs.Ytbccjkjibffbkaa
open Go.RowKit Go.Shelf
set_option linter.unusedSimpArgs false
set_option linter.unusedVariables false
noncomputable def statsN (L : List Le) : Nat := if allS L = true then (L.map Le.Z).flatten.length else 0
noncomputable def statsK (L : List Le) : Nat := if allS L = true then keysN ((L.map Le.Z).flatten.map Prod.snd) else 0
def StatsPost (w : World) (L : List Le) (e : Ending) (w' : World) : Prop := e = .returned (.tuple #[.int .i64 (statsN L : Nat), .int .i64 (statsK L : Nat)]) ∧ Below w.heap.size w w'
theorem keysN_le (K : List RV) : keysN K ≤ K.length := by
  have key : ∀ n (K : List RV), K.length = n → keysN K ≤ K.length := by
    intro n
    induction n with
    | zero => intro K h; rw [List.eq_nil_of_length_eq_zero h]; exact Nat.le_refl _
    | succ n ih =>
      intro K h
      rcases List.eq_nil_or_concat K with rfl | ⟨L, x, rfl⟩
      · cases h
      · rw [List.concat_eq_append] at h ⊢
        have := ih L (by simp at h; exact h)
        rw [keysN_snoc, List.length_append]
        split <;> simp <;> omega
  exact key _ K rfl
theorem compact_nil (w0 w : World) (hb : Below w0.heap.size w0 w) : Calls Try.prog 24 #[.slice none 0 0, .func (.func 22) #[] #[]] w (CompactPost w0 []) := by
  have HB := Lib.hid hb
  clear hb
  go_enter Try.func24, Try.ntmps24
  go_wp2
  go_ret
  exact ⟨_, 0, _, rfl, rfl, HB.out⟩
set_option maxRecDepth 100000 in
set_option maxHeartbeats 16000000 in
theorem stats_any (A : Option Addr) (n c : Nat) (L : List Le) (w : World) (hL : LsIn w A L) (hn : n = L.length) (hl : L.length ≤ 1900000) (ht : (L.map Le.Z).flatten.length ≤ 1000000) :
    Calls Try.prog 11 #[.slice A n c] w (StatsPost w L) := by
  have HIN := Lib.hid hL
  have HN := Lib.hid hn
  have HLL := Lib.hid hl
  have HT := Lib.hid ht
  have HAS := Lib.hid (allsorted_any A n c L w hL hn)
  clear hL hn hl ht
  obtain ⟨s, hs⟩ : ∃ s, s = allS L := ⟨_, rfl⟩
  rw [← hs] at HAS
  have HS := Lib.hid hs
  clear hs
  cases s
  case false =>
    go_enter Try.func11, Try.ntmps11
    go_wp2_with (go_at_call 16; refine HAS.out.mono ?_; rintro e w2 ⟨rfl, hb⟩; have HB := Lib.hid hb; clear hb)
    go_ret2
    have hno : ¬ allS L = true := by rw [← HS.out]; decide
    exact ⟨by unfold statsN statsK; rw [if_neg hno, if_neg hno]; rfl, HB.out⟩
  case true =>
    have HSR := Lib.hid (show ∀ x ∈ L, SortedF sF x.Z from fun x hx => srt_sorted ((allS_iff L).1 HS.out.symm x hx))
    go_enter Try.func11, Try.ntmps11
    go_upto_region 4 with (go_at_call 16; refine HAS.out.mono ?_; rintro e w2 ⟨rfl, hb⟩; have HB := Lib.hid hb; clear hb)
    obtain ⟨wc, hwc⟩ : ∃ wc, wc = w2.alloc (.cells #[.slice A n c] 25) := ⟨_, rfl⟩
    have hbc : Below w2.heap.size w2 wc := by rw [hwc]; exact bpush (Below.refl _ _) _
    have HBC := Lib.hid (bthen HB.out hbc)
    have HMK := Lib.hid (show Calls Try.prog 17 #[.slice A n c] w2 fun e w' => e = .returned (.func (.func 32) #[] #[.pointer (some ⟨w2.heap.size, 0, none⟩)]) ∧ w' = wc by rw [hwc]; exact all_maker A n c w2)
    have HCO := Lib.hid (collect_any A n c w2.heap.size L wc (HIN.out.keep HBC.out) HN.out HLL.out HSR.out HT.out (by rw [hwc]; exact cell_made rfl rfl))
    obtain ⟨bs, hbs⟩ : ∃ bs, bs = w2.heap.size := ⟨_, rfl⟩
    rw [← hbs] at HMK HCO
    clear hwc hbc hbs
    go_upto_region 5 with (first | (go_at_call 17; refine HMK.out.mono ?_; rintro e w3 ⟨rfl, rfl⟩) | (go_at_call 23; refine HCO.out.mono ?_; rintro e w4 ⟨v, M, rfl, h1, h2, h3, h4⟩; have HM1 := Lib.hid h1; have HM2 := Lib.hid h2; have HM3 := Lib.hid h3; have HM4 := Lib.hid h4; clear h1 h2 h3 h4))
    obtain ⟨_, vA, vc, rfl, hvr, hvc, hvm, hvn⟩ := own_sliceR HM3.out
    have hml : M.length = (L.map Le.Z).flatten.length := HM2.out.length.symm
    have hm9 : M.length ≤ 1000000 := by have := HT.out; omega
    have HCM := Lib.hid (show Calls Try.prog 24 #[.slice vA M.length vc, .func (.func 22) #[] #[]] w4 (CompactPost w3 M) by
      rcases HM3.out.2 with ⟨e, h0⟩ | ⟨g, cap, cur, e, _⟩
      · have hM : M = [] := List.length_eq_zero_iff.1 (by omega)
        subst hM
        cases e
        exact compact_nil w3 w4 HM4.out
      · cases e
        exact compact_any g M.length vc M w3 w4 HM3.out HM4.out (fun z hz => by
          obtain ⟨x, hx, hzx⟩ := flat_mem (HM2.out.mem hz)
          exact ((HIN.out.ok x hx).rows.good z hzx).keep HBC.out) HM1.out hm9)
    have HSN := Lib.hid (show statsN L = M.length by unfold statsN; rw [if_pos HS.out.symm, hml])
    have HSK := Lib.hid (show statsK L = keysN (M.map Prod.snd) by unfold statsK; rw [if_pos HS.out.symm]; exact (keysN_sorts (sorts_of HM1.out HM2.out)).symm)
    obtain ⟨m, hm⟩ : ∃ m, m = M.length := ⟨_, rfl⟩
    have HBX := Lib.hid (show ∀ w', Below w3.heap.size w3 w' → Below w.heap.size w w' from fun w' h => HBC.out.trans (h.mono HBC.out.size))
    rw [← hm] at HCM HSN hm9 ⊢
    clear hvr hvc hvm hvn hml hm HCO HMK
    go_wp2_with (go_at_call 24; refine HCM.out.mono ?_; rintro e w5 ⟨A5, k5, c5, rfl, h1, h2⟩; have HK5 := Lib.hid h1; have HB5 := Lib.hid h2; clear h1 h2)
    go_ret2
    exact ⟨by rw [HSN.out, HSK.out, HK5.out]; rfl, HBX.out _ HB5.out⟩
end Go.Proofs.Ytbccjkjibffbkaa
