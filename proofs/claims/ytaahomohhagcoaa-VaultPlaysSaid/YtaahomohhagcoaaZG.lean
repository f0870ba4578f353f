/- The document's Read, List, Copy. -/
import Derived.Test.YtaahomohhagcoaaZF
import Derived.Test.YtaahomohhagcoaaT
namespace Go.Proofs.Ytaahomohhagcoaa
open Go.RowKit Go.Maps Go.Shelf Go.Lib
set_option linter.unusedSimpArgs false
set_option linter.unusedVariables false
set_option maxRecDepth 100000 in
set_option maxHeartbeats 8000000 in
theorem rread_any (a : Nat) (R : RV) (P : VZ) (s : ByteArray) (w : World) (h : RRep w a R) (hi : RIs R P) (hp : PInv P) : Calls Try.prog 21 #[.pointer (some ⟨a, 0, none⟩), .string s] w fun e w' => (∃ v, e = .returned (.tuple #[v, .bool (lookF P.F s).isSome])) ∧ Below w.heap.size w w' := by
  have hfd := find_is h hi hp s
  have hlk : (lookF P.F s).isSome = (lookF R.F s).isSome := by rw [hi.look s]; cases lookF R.F s <;> rfl
  rw [hlk]
  have HH := Lib.hid h
  cases hl : lookF R.F s with
  | none =>
    rw [hl] at hfd
    have HFD := Lib.hid hfd
    clear h hi hp hfd hlk hl
    go_enter Try.func21, Try.ntmps21
    go_wp2_with (go_at_call 41; refine HFD.out.mono ?_; rintro e w2 ⟨rfl, m2, hm2⟩; have HM2 := Lib.hid hm2; clear hm2)
    go_ret2
    exact ⟨⟨_, rfl⟩, by rw [HM2.out]; exact below_drewN (Below.refl _ _) _⟩
  | some f =>
    have hsome : (lookF R.F s).isSome = true := by rw [hl]; rfl
    obtain ⟨u, hu⟩ : ∃ u, u = upto (namesF R.F) s := ⟨_, rfl⟩
    rw [hsome, ← hu] at hfd
    have HFD := Lib.hid hfd
    obtain ⟨hul, _⟩ := look_at (hi.one hp) hl
    rw [← hu] at hul
    obtain ⟨n, hn⟩ : ∃ n, n = R.n := ⟨_, rfl⟩
    have hun : u < n := by rw [hn, h.len]; exact hul
    have hnc : n ≤ R.c := by rw [hn]; exact h.cap
    have hn9 : n ≤ 200 := by rw [hn, h.len]; exact hi.len2 hp
    have HUL := Lib.hid hul
    have HN := Lib.hid hn
    have hu0 : (0 : Int) ≤ (u : Int) := by omega
    have hun1 : (u : Int) < (n : Int) := by omega
    clear h hi hp hfd hlk hl hsome hu hul hn
    go_enter Try.func21, Try.ntmps21
    go_upto_region 4 with (go_at_call 41; refine HFD.out.mono ?_; rintro e w2 ⟨rfl, m2, hm2⟩; have HM2 := Lib.hid hm2; clear hm2)
    have hr2 : RRep w2 a R := by rw [HM2.out]; exact HH.out.drews
    have c2 := hr2.blk.cell 2
    simp at c2
    obtain ⟨b, off, hAe, d0, d1, d2⟩ := file_cells hr2.row HUL.out
    rw [← HN.out, show R.A = _ from hAe] at c2
    clear hr2 hAe d0 d2
    go_wp2_with fail
    go_ret2
    exact ⟨⟨_, rfl⟩, by rw [HM2.out]; exact below_drewN (Below.refl _ _) _⟩
set_option maxRecDepth 100000 in
set_option maxHeartbeats 8000000 in
theorem rlist_any (a : Nat) (R : RV) (w : World) (h : RRep w a R) (hl : R.F.length ≤ 200) : Calls Try.prog 38 #[.pointer (some ⟨a, 0, none⟩)] w fun e w' => ∃ D k, e = .returned (.slice D R.F.length k) ∧ Row w' D (texts (namesF R.F)) ∧ Below w.heap.size w w' := by
  have HH := Lib.hid h
  obtain ⟨n, hn⟩ : ∃ n, n = R.n := ⟨_, rfl⟩
  have hnc : n ≤ R.c := by rw [hn]; exact h.cap
  have HNL := Lib.hid (show R.F.length = n by rw [hn, h.len])
  have HN := Lib.hid hn
  have hn9 : n ≤ 200 := by have := HNL.out; omega
  rw [HNL.out]
  obtain ⟨i0, hi0, hz0, hz1, hz2⟩ := info_parts info9
  clear h hn hl
  go_enter Try.func38, Try.ntmps38
  go_wp2_with fail
  go_loopw [3, 4] (fun v3 v4 wr => ∃ (j : Nat) (A' : Option Addr) (c' : Nat), j ≤ n ∧ v4 = .int .i64 j ∧ v3 = .slice A' j c' ∧ Hid (wr.ownsRow w.heap.size 9 1 (.slice A' j c') j (texts ((namesF R.F).take j))) ∧ Hid (Below w.heap.size w wr)) (fun _ i _ => n - (intOf i).toNat)
  case atStart => exact ⟨0, none, 0, by omega, rfl, rfl, Lib.hid (World.ownsRow_nil _ _ _ _), Lib.hid (Below.refl _ _)⟩
  case round =>
    obtain ⟨j, A', c', hj, rfl, rfl, HOW, HB⟩ := hrel
    have hr := HH.out.below HB.out
    have c2 := hr.blk.cell 2
    simp at c2
    rw [← HN.out] at c2
    by_cases hlt : j < n
    · have hjl : j < R.F.length := by have := HNL.out; omega
      obtain ⟨b, off, hAe, d0, _, _⟩ := file_cells hr.row hjl
      rw [show R.A = _ from hAe] at c2
      obtain ⟨x, hx⟩ : ∃ x, x = R.F[j].name := ⟨_, rfl⟩
      rw [← hx] at d0
      have HTK := Lib.hid (show (namesF R.F).take (j + 1) = (namesF R.F).take j ++ [x] by
        rw [take_snoc _ _ (by unfold namesF; rw [List.length_map]; exact hjl), hx]; simp [namesF])
      have hj0 : (0 : Int) ≤ (j : Int) := by omega
      have hj1 : (j : Int) < (n : Int) := by omega
      have hj16 : (j + 1) * 16 ≤ 140737488355328 := by omega
      have hjm : j + 1 ≤ maxLen := by unfold maxLen; omega
      have HSZ := Lib.hid (show w.heap.size ≤ (wr.alloc (.cells #[.string x] 9)).heap.size by have := HB.out.size; simp; omega)
      clear hr hx hAe hlt
      go_wp2_with (at_builtin; refine wpList_append_own_at _ rfl _ _ 49 rfl w.heap.size 9 i0 (.string ⟨#[]⟩) 1 16 Try.underlying49 hi0 hz0 hz1 hz2 rfl (by decide) (.slice A' j c') j (texts ((namesF R.F).take j)) rfl (HOW.out.alloc _) ⟨wr.heap.size, 0, none⟩ 1 1 [.string x] rfl rfl (Row.made rfl rfl).at' (by intro u hu; simp at hu; subst hu; rfl) hjm hj16 HSZ.out ?_; intro v7 w7 ho7 hg7 _ hd7; obtain ⟨A7, c7, rfl⟩ := own_is ho7; have HO7 := Lib.hid ho7; have HB7 := Lib.hid (Below.trans (HB.out.alloc HB.out.size _) (grown_own (HOW.out.alloc _) hg7 HSZ.out)); clear ho7 hg7 hd7)
      go_roundw
      case rel => exact ⟨j + 1, A7, c7, by omega, by go_num, rfl, Lib.hid (by have h := HO7.out; rw [show texts ((namesF R.F).take j) ++ [Value.string x] = texts ((namesF R.F).take (j + 1)) by rw [HTK.out]; simp [texts]] at h; exact h), HB7⟩
      case measure => simp [intOf]; omega
    · obtain rfl : j = n := by omega
      have hge : ¬ (j : Int) < (j : Int) := by omega
      clear hr hlt
      have HE := Lib.hid (show Row wr A' (texts (namesF R.F)) from by
        obtain ⟨A9, c9, e, hrow, _⟩ := own_slice HOW.out
        cases e
        rw [List.take_of_length_le (by have := HNL.out; unfold namesF; rw [List.length_map]; omega)] at hrow
        exact hrow)
      go_wp2_with fail
      go_ret
      exact ⟨A', ⟨c', rfl⟩, HE.out, HB.out⟩
end Go.Proofs.Ytaahomohhagcoaa
