import Derived.Test.YtgegmbkjkiifaaaGG
import Derived.Laws.BytesArg
namespace Go.Proofs.Ytgegmbkjkiifaaa
open Go.RowKit
set_option linter.unusedSimpArgs false
set_option maxRecDepth 100000 in
set_option maxHeartbeats 1000000 in
theorem rtext_good (rb : Nat) (bs : List Int) (hi : Int) (w : World) (hR : Rd w rb bs) (hb : bytes bs) (t l : Nat) (hp : numP bs = ((t : Int), l)) (hl : 0 < l) (hv2 : (t : Int) ≤ hi) (hlen : l + t ≤ bs.length) :
    Calls Try.prog 40 #[.pointer (some ⟨rb, 0, none⟩), .int .i64 hi] w (ReadPost w rb (.string (strOfNums ((bs.drop l).take t))) 0 (bs.drop (l + t))) := by
  have hR' := Lib.hid hR
  obtain ⟨A, n, c, h1, h2, h3, h4, h5, h6⟩ := hR
  have H2 := Lib.hid h2
  have HP := Lib.hid hp
  have HB := Lib.hid hb
  have hfz := h5 0
  rcases h6 with rfl | ⟨b, off, rfl, h8, h9⟩
  · simp at hlen; omega
  have hrow : Row w (some ⟨b, off, none⟩) (bs.map (Value.int .u8)) := .inr ⟨b, off, rfl, h9⟩
  have hln' : l + t ≤ n := by omega
  have hl2 : ((l : Int) == 0) = false := by simp; omega
  have h9' := Lib.hid h9
  have hxl : ((bs.drop l).take t).length = t := by rw [List.length_take, List.length_drop]; omega
  have hxc : ∀ i, i < t → w.cell? ⟨b, off + l + i, none⟩ = some (.int .u8 (((bs.drop l).take t).getD i 0)) := by
    intro i hi
    have e : ((bs.drop l).take t).getD i 0 = bs[l + i] := by
      rw [List.getD_eq_getElem?_getD, List.getElem?_take_of_lt hi, List.getElem?_drop, List.getElem?_eq_getElem (by omega)]; rfl
    rw [e, Nat.add_assoc]
    exact h9 (l + i) _ (by rw [List.getElem?_map, List.getElem?_eq_getElem (by omega)]; rfl)
  clear h2 hp hb h5 h9 hlen
  by_cases hcl : c = l
  · have ht0 : t = 0 := by omega
    subst ht0 hcl
    have hxc' : ∀ i, i < 0 → w.cell? ⟨b, off + i, none⟩ = some (.int .u8 (((bs.drop c).take 0).getD i 0)) := fun i hi => absurd hi (by omega)
    have hnc : n = c := by omega
    have HQ := Lib.hid (hR'.out.put (cs := bs.drop (c + 0)) (A := some ⟨b, off, none⟩) (n := 0) (c := 0) (by rw [List.length_drop, ← H2.out]; omega) (by omega) (by omega) (.inl (List.drop_of_length_le (by have := H2.out; omega))))
    have hcv := run_convert_bytes_arg (P := Try.prog) w 40 5 Try.underlying40 Try.underlying5 b off 0 0 _ hxl hxc' 9 Try.underlying9
    obtain ⟨s, hs⟩ : ∃ s, s = strOfNums ((bs.drop c).take 0) := ⟨_, rfl⟩
    rw [← hs] at hcv ⊢
    clear hs hxl hxc hxc' hnc
    go_enter Try.func40, Try.ntmps40
    go_wp2_with fail
    refine (number_any _ n c bs w hrow (by omega) H2.out HB.out _ c HP.out).mono ?_
    rintro e w1 ⟨rfl, rfl⟩
    go_wp2
    go_ret2
    exact ⟨rfl, HQ.out.1, HQ.out.2⟩
  · by_cases hct : c = l + t
    · have HQ := Lib.hid (hR'.out.put (cs := bs.drop (l + t)) (A := some ⟨b, off, none⟩) (n := 0) (c := 0) (by rw [List.length_drop, ← H2.out]; omega) (by omega) (by omega) (.inl (List.drop_of_length_le (by have := H2.out; omega))))
      have hcv := run_convert_bytes_arg (P := Try.prog) w 40 5 Try.underlying40 Try.underlying5 b (off + l) t t _ hxl hxc 9 Try.underlying9
      obtain ⟨s, hs⟩ : ∃ s, s = strOfNums ((bs.drop l).take t) := ⟨_, rfl⟩
      rw [← hs] at hcv ⊢
      subst hct
      clear hs hxl hxc
      go_enter Try.func40, Try.ntmps40
      go_wp2_with fail
      refine (number_any _ n _ bs w hrow (by omega) H2.out HB.out _ l HP.out).mono ?_
      rintro e w1 ⟨rfl, rfl⟩
      go_wp2
      go_ret2
      exact ⟨rfl, HQ.out.1, HQ.out.2⟩
    · have HQ := Lib.hid (hR'.out.put (cs := bs.drop (l + t)) (A := some ⟨b, off + (l + t), none⟩) (n := n - (l + t)) (c := c - (l + t)) (by rw [List.length_drop, ← H2.out]) (by omega) (by omega)
      (.inr ⟨b, off + (l + t), rfl, h8, fun j u hu => by
        have := h9'.out (l + t + j) u (by rw [List.getElem?_map, List.getElem?_drop] at hu; rw [List.getElem?_map]; exact hu)
        rwa [← Nat.add_assoc] at this⟩))
      have hcv := run_convert_bytes_arg (P := Try.prog) w 40 5 Try.underlying40 Try.underlying5 b (off + l) t (c - l) _ hxl hxc 9 Try.underlying9
      obtain ⟨s, hs⟩ : ∃ s, s = strOfNums ((bs.drop l).take t) := ⟨_, rfl⟩
      rw [← hs] at hcv ⊢
      clear hs hxl hxc
      go_enter Try.func40, Try.ntmps40
      go_wp2_with fail
      refine (number_any _ n c bs w hrow (by omega) H2.out HB.out _ l HP.out).mono ?_
      rintro e w1 ⟨rfl, rfl⟩
      go_wp2
      go_ret2
      exact ⟨rfl, HQ.out.1, HQ.out.2⟩
end Go.Proofs.Ytgegmbkjkiifaaa
