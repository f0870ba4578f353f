/- up (51). -/
import Derived.Test.YtbccjkjibffbkaaMH
namespace Go.Proofs.Ytbccjkjibffbkaa
open Go.RowKit Go.Shelf
set_option linter.unusedSimpArgs false
set_option linter.unusedVariables false
/-- What stands in the heap is as it was, in some order, and the heap is one. -/
structure HpSt (w0 ws : World) (P n : Nat) (f f' : Nat → Cu) (w : World) : Prop where
  st : HeapSt w0 ws P n f' w
  perm : (seqF f' n).Perm (seqF f n)
def hpI (P : Nat) : Value := .iface 58 (.pointer (some ⟨P, 0, none⟩))
def UpPost (w0 ws : World) (P n : Nat) (f : Nat → Cu) (e : Ending) (w' : World) : Prop := e = .returned (.tuple #[]) ∧ ∃ f', HpSt w0 ws P n f f' w' ∧ HeapOk ltU n f'
theorem half_int {j : Nat} (h : 0 < j) : ((j : Int) - 1).tdiv 2 = (((j - 1) / 2 : Nat) : Int) := by
  rw [Int.tdiv_eq_ediv_of_nonneg (by omega)]
  omega
set_option maxRecDepth 100000 in
set_option maxHeartbeats 16000000 in
theorem up_u (w0 ws : World) (P n j : Nat) (f : Nat → Cu) (w : World) (h : HeapSt w0 ws P n f w) (hu : UpOk ltU n f j) (hj : j < n) : Calls Try.prog 51 #[hpI P, .int .i64 j] w (UpPost w0 ws P n f) := by
  have hfew := h.few
  have HH := Lib.hid (show HpSt w0 ws P n f f w from ⟨h, List.Perm.refl _⟩)
  have HU := Lib.hid hu
  unfold hpI
  clear h hu
  have nl := n_less ⟨P, 0, none⟩
  have ns := n_swap ⟨P, 0, none⟩
  go_enter Try.func51, Try.ntmps51
  go_wp2_with fail
  go_loopw [1] (fun v1 wr => ∃ (k : Nat) (f' : Nat → Cu), k < n ∧ v1 = .int .i64 k ∧ Hid (HpSt w0 ws P n f f' wr) ∧ Hid (UpOk ltU n f' k)) (fun i _ => (intOf i).toNat)
  case atStart => exact ⟨j, f, hj, rfl, HH, HU⟩
  case round =>
    clear HH HU
    obtain ⟨k, f', hk, rfl, HH, HU⟩ := hrel
    by_cases hk0 : k = 0
    · subst hk0
      go_wp2
      go_end0
      exact ⟨rfl, f', HH.out, up_done HU.out (.inl rfl)⟩
    · obtain ⟨q, hq⟩ : ∃ q, q = (k - 1) / 2 := ⟨_, rfl⟩
      have hqk : q < k := by omega
      have hqi : ((k : Int) - 1).tdiv 2 = (q : Int) := by rw [half_int (by omega), hq]
      have hne : ¬ (q : Int) = (k : Int) := by omega
      obtain ⟨g, cap, hP, ho⟩ := heap_row' HH.out.st (by omega)
      have ml := m_less P _ wr (show wr.cell? ⟨P, 0, none⟩ = some (.slice (some ⟨g, 0, none⟩) n cap) by rw [hP.cell 0]; rfl)
      have HC := Lib.hid (less_h HH.out.st ho hk (show q < n by omega))
      obtain ⟨r, hr⟩ : ∃ r, r = ltU (f' k) (f' q) := ⟨_, rfl⟩
      rw [← hr] at HC
      have HR := Lib.hid hr
      have HQ := Lib.hid hq
      clear hP ho hr hq
      cases r
      · go_wp2_with (go_at_call 79; refine HC.out.mono ?_; rintro e w2 ⟨rfl, hb⟩; have HB := Lib.hid hb; clear hb)
        go_end0
        exact ⟨rfl, f', ⟨HH.out.st.more HB.out, HH.out.perm⟩, up_done HU.out (.inr (by rw [← HQ.out]; exact HR.out.symm))⟩
      · go_upto_region 2 with (go_at_call 79; refine HC.out.mono ?_; rintro e w2 ⟨rfl, hb⟩; have HB := Lib.hid hb; clear hb)
        have hs2 := HH.out.st.more HB.out
        obtain ⟨g2, cap2, hP2, ho2⟩ := heap_row' hs2 (by omega)
        have ms := m_swap P _ w2 (show w2.cell? ⟨P, 0, none⟩ = some (.slice (some ⟨g2, 0, none⟩) n cap2) by rw [hP2.cell 0]; rfl)
        have HS := Lib.hid (swap_h hs2 hP2 ho2 (show q < n by omega) hk)
        have HN : Hid (HpSt w0 ws P n f f' w2) := Lib.hid ⟨hs2, HH.out.perm⟩
        clear hs2 hP2 ho2
        go_wp2_with (go_at_call 82; refine HS.out.mono ?_; rintro e w3 ⟨rfl, hs⟩; have HS3 := Lib.hid hs; clear hs)
        go_roundw
        case rel => exact ⟨q, swapF f' q k, by omega, rfl, Lib.hid ⟨HS3.out, (swap_perm (by omega) hk).trans HH.out.perm⟩, Lib.hid (by rw [HQ.out]; exact up_step ltU_ord HU.out (by omega) hk (by rw [← HQ.out]; exact HR.out.symm))⟩
        case measure => simp [intOf]; omega
end Go.Proofs.Ytbccjkjibffbkaa
