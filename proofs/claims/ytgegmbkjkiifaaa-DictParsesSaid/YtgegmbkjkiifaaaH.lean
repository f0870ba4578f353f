/- A dictionary's bytes. -/
import Derived.Test.YtgegmbkjkiifaaaF
import Derived.Test.YtgegmbkjkiifaaaGI
import Derived.Test.YtgegmbkjkiifaaaGM
namespace Go.Proofs.Ytgegmbkjkiifaaa
open Go.RowKit Go.Lib
set_option linter.unusedSimpArgs false
set_option linter.unusedVariables false
theorem encV_len (v : Int) : (encV v).length ≤ 10 := by rw [encV, encI_length]; exact (groups_bd _).2
def tailT (s : ByteArray) (n : Nat) : ByteArray := s.extract n s.size
def codeT (a s : ByteArray) : List Int := ([] ++ encV (cpT a s)) ++ encV (tailT s (cpT a s)).size ++ sB (tailT s (cpT a s))
def codeL : ByteArray → List ByteArray → List Int
  | _, [] => []
  | a, s :: D => codeT a s ++ codeL s D
def lastT (a : ByteArray) (D : List ByteArray) : ByteArray := D.getLast?.getD a
theorem lastT_snoc (a : ByteArray) (D : List ByteArray) (s : ByteArray) : lastT a (D ++ [s]) = s := by simp [lastT]
theorem codeL_snoc : ∀ (D : List ByteArray) (a s : ByteArray), codeL a (D ++ [s]) = codeL a D ++ codeT (lastT a D) s := by
  intro D
  induction D with
  | nil => intro a s; simp [codeL, lastT]
  | cons x D ih =>
    intro a s
    rw [List.cons_append, codeL, codeL, ih, List.append_assoc]
    congr 3
    cases D with
    | nil => rfl
    | cons y D => simp [lastT, List.getLast?_cons]
def bytesD (D : List ByteArray) : List Int := encV D.length ++ codeL ⟨#[]⟩ D
theorem tailT_size (s : ByteArray) (n : Nat) : (tailT s n).size = s.size - n := by
  simp [tailT, ByteArray.size_extract]
theorem codeT_len (a s : ByteArray) : (codeT a s).length ≤ 20 + s.size := by
  unfold codeT
  have h1 := encV_len (cpT a s : Int)
  have h2 := encV_len ((tailT s (cpT a s)).size : Int)
  have h3 := tailT_size s (cpT a s)
  simp only [List.length_append, List.length_nil, sB_length]
  omega
theorem codeL_len : ∀ (D : List ByteArray) (a : ByteArray), (∀ s ∈ D, s.size ≤ 100) → (codeL a D).length ≤ 120 * D.length := by
  intro D
  induction D with
  | nil => intro a _; simp [codeL]
  | cons s D ih =>
    intro a h
    have h1 := codeT_len a s
    have h2 := h s (List.mem_cons_self ..)
    have h3 := ih s (fun x hx => h x (List.mem_cons_of_mem _ hx))
    simp only [codeL, List.length_append, List.length_cons]
    omega
theorem no_none (a : Addr) (c : Nat) : (some a : Option Addr) = none → c = 0 := fun h => by cases h
def AllB (W0 w : World) (D : List ByteArray) (e : Ending) (w' : World) : Prop := ∃ A c, e = .returned (.slice A D.length c) ∧ Row W0 A (texts D) ∧ D.length ≤ c ∧ c ≤ 9223372036854775807 ∧ (A = none → c = 0) ∧ w = w'
set_option maxRecDepth 100000 in
set_option maxHeartbeats 4000000 in
theorem all_base (p : Value) (D : List ByteArray) (W0 w : World) (h : DictP W0 p D) (hb : Below W0.heap.size W0 w) : Calls Try.prog 32 #[p] w (AllB W0 w D) := by
  rcases h with ⟨rfl, rfl⟩ | ⟨g, A, c, rfl, h2, h3, h4, h5, h6⟩
  · clear hb
    go_enter Try.func32, Try.ntmps32
    go_wp2_with fail
    go_ret
    exact ⟨none, 0, rfl, .inl rfl, Nat.le_refl _, by omega, fun _ => rfl, rfl⟩
  · have k2 := cell_on hb h2
    obtain ⟨n, hn⟩ : ∃ n, n = D.length := ⟨_, rfl⟩
    rw [← hn] at k2
    have HP := Lib.hid (show AllB W0 w D (.returned (.slice A n c)) w from ⟨A, c, by rw [hn], h3, h4, h5, h6, rfl⟩)
    clear h2 h3 h4 h5 h6 hn hb
    go_enter Try.func32, Try.ntmps32
    go_wp2_with fail
    go_ret
    exact HP.out
def BytesPost (w : World) (xs : List Int) (e : Ending) (w' : World) : Prop := ∃ A c, e = .returned (.slice A xs.length c) ∧ Row w' A (xs.map (Value.int .u8)) ∧ xs.length ≤ c ∧ (A = none → c = 0) ∧ Below w.heap.size w w'
set_option maxRecDepth 100000 in
set_option maxHeartbeats 4000000 in
theorem bytes_any (p : Value) (D : List ByteArray) (w : World) (h : DictP w p D) (hl : D.length ≤ 65536) (hs : ∀ s ∈ D, s.size ≤ 100) :
    Calls Try.prog 19 #[p] w (BytesPost w (bytesD D)) := by
  have H := Lib.hid h
  have HS := Lib.hid hs
  obtain ⟨n, hn⟩ : ∃ n, n = D.length := ⟨_, rfl⟩
  obtain ⟨R, hR⟩ : ∃ R, R = bytesD D := ⟨_, rfl⟩
  have HN := Lib.hid hn
  have HR := Lib.hid hR
  have hn2 : n ≤ 65536 := by omega
  rw [← hR]
  clear h hs hn hR hl
  go_enter Try.func19, Try.ntmps19
  go_wp2_with fail
  refine (len_any p D _ H.out).mono ?_
  rw [← HN.out]
  rintro e w1 ⟨rfl, rfl⟩
  go_wp2_with fail
  refine (int_any none 0 0 [] n _ (.inl rfl) (by omega) rfl (by omega) (by omega) (by omega)).mono ?_
  rintro e w1 ⟨g1, c1, rfl, hc1, ho1, hb1⟩
  have HB1 := Lib.hid hb1
  have HO1 := Lib.hid ho1
  clear hb1 ho1
  obtain ⟨l1, hl1⟩ : ∃ l1, l1 = ([] ++ encV (n : Int)).length := ⟨_, rfl⟩
  rw [← hl1] at hc1 HO1 ⊢
  have hl1' : l1 ≤ 10 := by rw [hl1, List.nil_append]; exact encV_len _
  clear hl1
  go_wp2_with fail
  refine (all_base p D w _ H.out HB1.out).mono ?_
  rintro e w2 ⟨A, c, rfl, hrow, hc, _, _, rfl⟩
  rw [← HN.out] at hc ⊢
  have HROW := Lib.hid hrow
  clear hrow
  go_wp2_with fail
  go_loopw [3, 4, 6, 7, 14] (fun v ah s q i wr => ∃ (k t : Nat) (acc : List Int), k ≤ n ∧ t ≤ 10 + 120 * k ∧ i = .int .i64 k ∧ ah = .string (lastT ⟨#[]⟩ (D.take k)) ∧ Hid (wr.ownsRow w.heap.size 5 1 v t (acc.map (Value.int .u8))) ∧ Hid (Below w.heap.size w wr) ∧ Hid (acc = encV (n : Int) ++ codeL ⟨#[]⟩ (D.take k))) (fun _ _ _ _ i _ => n - (intOf i).toNat)
  case atStart => exact ⟨0, l1, [] ++ encV (n : Int), Nat.zero_le _, by omega, rfl, rfl, HO1, HB1, Lib.hid (by simp [codeL])⟩
  case round =>
    obtain ⟨k, t, acc, hk, ht, rfl, rfl, HO, HBW, HA⟩ := hrel
    by_cases hlt : k < n
    · have hkz : k < D.length := by have := HN.out; omega
      have hki : (k : Int) < (n : Int) := by omega
      have hk0 : (0 : Int) ≤ (k : Int) := by omega
      obtain ⟨b, off, hAe, c0⟩ := text_cell (HROW.out.keep (Nat.le_refl _) HBW.out) hkz
      obtain ⟨s, hs⟩ : ∃ s, s = D[k] := ⟨_, rfl⟩
      rw [← hs] at c0
      have HSS := Lib.hid hs
      have hsz : s.size ≤ 100 := by rw [hs]; exact HS.out _ (List.getElem_mem _)
      obtain ⟨a, ha⟩ : ∃ a, a = lastT ⟨#[]⟩ (D.take k) := ⟨_, rfl⟩
      rw [← ha]
      have HAA := Lib.hid ha
      have hasz : a.size ≤ 100 := by
        rw [ha]
        unfold lastT
        cases hg : (D.take k).getLast? with
        | none => show (⟨#[]⟩ : ByteArray).size ≤ 100; decide
        | some x => exact HS.out x (List.mem_of_mem_take (List.mem_of_getLast? hg))
      have HTK := Lib.hid (show D.take (k + 1) = D.take k ++ [s] by rw [hs]; exact take_snoc D k hkz)
      subst hAe
      clear hs ha
      go_wp2_with fail
      refine (common_any a s _ (by omega) (by omega)).mono ?_
      rintro e w3 ⟨rfl, hb3⟩
      obtain ⟨m, hm⟩ : ∃ m, m = cpT a s := ⟨_, rfl⟩
      have hms : m ≤ s.size := by rw [hm]; exact (cpT_le a s).2
      rw [← hm]
      have HM := Lib.hid hm
      have HB3 := Lib.hid hb3
      have HO3 := Lib.hid (own_below HO.out hb3)
      have HBW3 := Lib.hid (show Below w.heap.size w w3 from HBW.out.trans (hb3.mono HBW.out.size))
      have hbs : w.heap.size ≤ w3.heap.size := HBW3.out.size
      have hts := tailT_size s m
      have hsl : ∀ W, Sem.run Try.prog (Instr.slice 9 (.string s) (some (.int .i64 (m : Int))) none none) W = .ok (.string (tailT s m)) W := fun W => by
        have := run_slice_string_l (P := Try.prog) (w := W) (t := 9) (s := s) Try.underlying9 .i64 (m : Int) (by omega) (by omega)
        simpa [tailT] using this
      have HQ1 := Lib.hid (show ∀ (l7 : Nat) (Y : List Int), l7 = Y.length → Y = [] ++ encV (m : Int) ++ encV (tailT s m).size ++ sB (tailT s m) → t + l7 ≤ 140737488355328 from fun l7 Y h1 h2 => by
        have k1 := encV_len (m : Int); have k2 := encV_len ((tailT s m).size : Int)
        rw [h1, h2]; simp only [List.length_append, List.length_nil, sB_length]; omega)
      have HQ0 := Lib.hid (show ∀ l6 : Nat, l6 = ([] ++ encV (m : Int)).length → l6 ≤ 1000000 from fun l6 h => by
        have := encV_len (m : Int); rw [h, List.nil_append]; omega)
      have HT1 := Lib.hid (show (tailT s m).size ≤ 1000000 by omega)
      have HOF := Lib.hid (show ∀ w6 w7 : World, Below w3.drew.heap.size w3.drew w6 → Below w6.heap.size w6 w7 → w7.ownsRow w.heap.size 5 1 u3 t (acc.map (Value.int .u8)) from fun w6 w7 h6 h7 => own_below (own_dr HO3.out 1) (bthen h6 h7))
      have HSF := Lib.hid (show ∀ w6 w7 : World, Below w3.drew.heap.size w3.drew w6 → Below w6.heap.size w6 w7 → w.heap.size ≤ w7.heap.size from fun w6 w7 h6 h7 => Nat.le_trans hbs (bthen h6 h7).size)
      have HBFF := Lib.hid (show ∀ w6 w7 w8 : World, Below w3.drew.heap.size w3.drew w6 → Below w6.heap.size w6 w7 → w7.grownBy w8 u3.ownBlock → Below w.heap.size w w8 from fun w6 w7 w8 h6 h7 h8 =>
        ((below_drewN HBW3.out 1).trans ((bthen h6 h7).mono hbs)).trans (grown_own (HOF.out w6 w7 h6 h7) h8 (HSF.out w6 w7 h6 h7)))
      clear hm hb3
      go_wp2_with fail
      go_region_held3 (fun w' => Below w.heap.size w w')
        (first
          | exact below_drewN HBW3.out 1
          | exact HBF
          | exact (below_drewN HBW3.out 1).trans ((bthen hb6 hb7).mono hbs)
          | exact (below_drewN HBW3.out 1).trans (hb6.mono hbs))
        (first
          | (go_at_call 33; refine (int_any none 0 0 [] (m : Int) _ (.inl rfl) (by omega) rfl (by omega) (by omega) (by omega)).mono ?_; rintro e w6 ⟨g6, c6, rfl, hc6, ho6, hb6⟩; have HR6 := Lib.hid (MadeB.row ho6); obtain ⟨l6, hl6⟩ : ∃ l6, l6 = ([] ++ encV (m : Int)).length := ⟨_, rfl⟩; rw [← hl6] at hc6 ⊢; have HL6 := Lib.hid hl6; have hl6' := HQ0.out l6 hl6; clear hl6 ho6)
          | (go_at_call 35; refine (text_any (some ⟨g6, 0, none⟩) l6 c6 ([] ++ encV (m : Int)) (tailT s m) _ HR6.out hl6' HL6.out hc6 HT1.out).mono ?_; rintro e w7 ⟨g7, c7, rfl, hc7, ho7, hb7⟩; have HR7 := Lib.hid (MadeB.row ho7); obtain ⟨Y, hY⟩ : ∃ Y, Y = [] ++ encV (m : Int) ++ encV (tailT s m).size ++ sB (tailT s m) := ⟨_, rfl⟩; rw [← hY] at hc7 HR7 ⊢; have HY := Lib.hid hY; obtain ⟨l7, hl7⟩ : ∃ l7, l7 = Y.length := ⟨_, rfl⟩; rw [← hl7] at hc7 ⊢; have HL7 := Lib.hid hl7; clear hl7 ho7 hY)
          | (refine step_append8 rfl _ _ rfl w.heap.size _ t (acc.map (Value.int .u8)) rfl (some ⟨g7, 0, none⟩) l7 c7 Y rfl (HOF.out _ _ hb6 hb7) HR7.out HL7.out hc7 (no_none _ _) (HQ1.out l7 Y HL7.out HY.out) (HSF.out _ _ hb6 hb7) ?_
             intro v8 w8 ho8 hg8 _
             have HBF : Below w.heap.size w w8 := HBFF.out _ _ _ hb6 hb7 hg8))
      have HO8 := Lib.hid (show w8.ownsRow w.heap.size 5 1 v8 (t + l7) ((acc ++ Y).map (Value.int .u8)) by rw [List.map_append]; exact ho8)
      have HBF8 := Lib.hid HBF
      have hl7b : l7 ≤ 120 := by
        have k1 := encV_len (m : Int); have k2 := encV_len ((tailT s m).size : Int)
        rw [HL7.out, HY.out]; simp only [List.length_append, List.length_nil, sB_length]; omega
      have HA8 := Lib.hid (show acc ++ Y = encV (n : Int) ++ codeL ⟨#[]⟩ (D.take (k + 1)) by
        rw [HTK.out, codeL_snoc, ← HAA.out, HA.out, HY.out, List.append_assoc, HM.out]; rfl)
      have HS8 := Lib.hid (show Value.string s = .string (lastT ⟨#[]⟩ (D.take (k + 1))) by rw [HTK.out, lastT_snoc])
      clear ho8 hg8 HBF hb6 hb7 hlt hsl hts
      go_wp2_with fail
      go_roundw
      case rel => exact ⟨k + 1, t + l7, acc ++ Y, by omega, by omega, by go_num, HS8.out, HO8, HBF8, HA8⟩
      case measure => simp [intOf]; omega
    · have hge : ¬ (k : Int) < (n : Int) := by omega
      have HE := Lib.hid (show acc = R by
        rw [HA.out, HR.out, bytesD, ← HN.out, List.take_of_length_le (by have := HN.out; omega)])
      clear hlt
      go_wp2_with fail
      go_ret
      obtain ⟨A9, c9, e9, r9, h9, n9⟩ := own_slice HO.out
      have ht9 : t = R.length := by have := HO.out.1; simp at this; rw [← HE.out]; exact this.symm
      exact ⟨A9, c9, by show Ending.returned u3 = _; rw [e9, ht9], by rw [← HE.out]; exact r9, by rw [← ht9]; exact h9, n9, HBW.out⟩
end Go.Proofs.Ytgegmbkjkiifaaa
