/- Parse of a dictionary's own bytes. -/
import Derived.Test.YtgegmbkjkiifaaaT
import Derived.Test.YtgegmbkjkiifaaaK
import Derived.Test.YtgegmbkjkiifaaaGM
import Derived.Test.YtgegmbkjkiifaaaGN
namespace Go.Proofs.Ytgegmbkjkiifaaa
open Go.RowKit Go.Lib
set_option linter.unusedSimpArgs false
set_option linter.unusedVariables false
theorem Rq.under {w w' : World} {rb H : Nat} {bs : List Int} (h : Rq w rb bs) (hb : Below H w w') (hH : rb < H) : Rq w' rb bs := by
  obtain ⟨A, n, c, h1, h2, h3, h4, h5, h6⟩ := h
  obtain ⟨hc, hf⟩ := bcell hb
  refine ⟨A, n, c, (hc _ _ hH).trans h1, h2, h3, h4, fun o => (hf _ _ hH).trans (h5 o), ?_⟩
  rcases h6 with h6 | ⟨b, off, h7, h8, h9⟩
  · exact .inl h6
  · exact .inr ⟨b, off, h7, h8, fun j u hu => (hc _ _ (by omega)).trans (h9 j u hu)⟩
theorem encV_bytes' (v : Int) : bytes (encV v) := encI_bytes _
theorem bytes_app' {xs ys : List Int} (h1 : bytes xs) (h2 : bytes ys) : bytes (xs ++ ys) := fun x hx => (List.mem_append.1 hx).elim (h1 x) (h2 x)
theorem codeT_bytes (a s : ByteArray) : bytes (codeT a s) := by
  unfold codeT
  exact bytes_app' (bytes_app' (bytes_app' (fun x hx => by cases hx) (encV_bytes' _)) (encV_bytes' _)) (sB_bytes _)
theorem codeL_bytes : ∀ (D : List ByteArray) (a : ByteArray), bytes (codeL a D) := by
  intro D
  induction D with
  | nil => intro a x hx; cases hx
  | cons s D ih => intro a; exact bytes_app' (codeT_bytes a s) (ih s)
theorem bytesD_bytes (D : List ByteArray) : bytes (bytesD D) := bytes_app' (encV_bytes' _) (codeL_bytes _ _)
theorem bytesD_len (D : List ByteArray) (h : ∀ s ∈ D, s.size ≤ 100) : (bytesD D).length ≤ 10 + 120 * D.length := by
  have h1 := encV_len (D.length : Int)
  have h2 := codeL_len D ⟨#[]⟩ h
  unfold bytesD; rw [List.length_append]; omega
def encG (v : Int) : Nat := groupsZ (foldZ v).toNat
theorem encG_len (v : Int) : (encV v).length = encG v := encI_length _
theorem encG_pos (v : Int) : 0 < encG v := (groups_bd _).1
theorem drop_enc (v : Int) (rest : List Int) : (encV v ++ rest).drop (encG v) = rest := by
  rw [← encG_len, List.drop_left]
theorem cpl_take : ∀ (l m : List UInt8), l.take (cpl l m) = m.take (cpl l m) := by
  intro l
  induction l with
  | nil => intro m; cases m <;> rfl
  | cons a l ih =>
    intro m
    cases m with
    | nil => rfl
    | cons b m =>
      unfold cpl
      split
      · rename_i h; subst h; rw [List.take_succ_cons, List.take_succ_cons, ih]
      · rfl
theorem glue (a s : ByteArray) : a.extract 0 (cpT a s) ++ tailT s (cpT a s) = s := by
  apply dat_inj
  have h1 : dat (a.extract 0 (cpT a s) ++ tailT s (cpT a s)) = (dat a).take (cpT a s) ++ (dat s).drop (cpT a s) := by
    unfold tailT dat
    rw [ByteArray.data_append]
    simp [ByteArray.data_extract]
    exact List.take_of_length_le (by simp)
  rw [h1]
  have h2 := cpl_take (dat a) (dat s)
  show (dat a).take (cpl (dat a) (dat s)) ++ _ = _
  rw [h2]
  exact List.take_append_drop _ _
theorem own_other {w w' : World} {rb H n : Nat} {v : Value} {xs : List Value} (h : w.ownsRow H 9 1 v n xs) (hg : w.grownBy w' (some rb)) (hH : rb < H) : w'.ownsRow H 9 1 v n xs :=
  h.kept hg (by
    rcases h.2 with ⟨rfl, _⟩ | ⟨g, cap, cur, rfl, hb, _⟩
    · exact .inl rfl
    · exact .inr (fun e => by have h1 : g = rb := (by simpa [Value.ownBlock] using e); omega))
theorem bytes_in {w : World} {A : Option Addr} {xs : List Int} (h : Row w A (xs.map (Value.int .u8))) : Lib.BytesIn w A xs.length xs := by
  intro h0
  rcases h with h | ⟨b, off, rfl, hc⟩
  · have : xs = [] := List.map_eq_nil_iff.1 h
    subst this; simp at h0
  · refine ⟨b, off, rfl, fun i hi => hc i _ ?_⟩
    rw [List.getElem?_map, List.getElem?_eq_getElem hi]
    simp [List.getD_eq_getElem?_getD, List.getElem?_eq_getElem hi]
def ParseGood (w : World) (D : List ByteArray) (e : Ending) (w' : World) : Prop := ∃ p, e = .returned (.tuple #[p, .int .i64 0]) ∧ DictP w' p D ∧ Below w.heap.size w w'
set_option maxRecDepth 100000 in
set_option maxHeartbeats 60000000 in
theorem parse_back (A : Option Addr) (n c : Nat) (D : List ByteArray) (w : World) (hA : Row w A ((bytesD D).map (Value.int .u8))) (hn : n = (bytesD D).length) (hr : rising D) (hf : ∀ s ∈ D, fitsT s) (hl : D.length ≤ 100) :
    Calls Try.prog 21 #[.slice A n c] w (ParseGood w D) := by
  obtain ⟨i0, hi0, hz0, hz1, hz2⟩ := info_parts info9
  have HA := Lib.hid hA
  have HRS := Lib.hid hr
  have HF := Lib.hid hf
  have hs100 : ∀ s ∈ D, s.size ≤ 100 := fun s hs => by have := (hf s hs).2; omega
  have HS := Lib.hid hs100
  have hbl := bytesD_len D hs100
  have hpos := bytesD_pos D
  obtain ⟨m, hm⟩ : ∃ m, m = D.length := ⟨_, rfl⟩
  have HM := Lib.hid hm
  have hm100 : m ≤ 100 := by omega
  have hn1 : n ≤ 1000000 := by omega
  have hn2 : 0 < n := by omega
  have HN := Lib.hid hn
  clear hA hr hf hn hs100 hbl hpos hm hl
  go_enter Try.func21, Try.ntmps21
  go_wp2_with fail
  refine (openq_any A n c (bytesD D) _ HA.out hn1 HN.out hn2).mono ?_
  rintro e w1 ⟨rb, rfl, hrb, hR, hb⟩
  have HB1 := Lib.hid hb
  have hlt1 : rb < w1.heap.size := hR.lt
  have hR1 : Rq w1 rb (encV (m : Int) ++ codeL ⟨#[]⟩ D) := by rw [HM.out]; exact hR
  have HR1 := Lib.hid hR1
  have HBY := Lib.hid (show bytes (encV (m : Int) ++ codeL ⟨#[]⟩ D) from bytes_app' (encV_bytes' _) (codeL_bytes _ _))
  clear hb hR hR1
  go_wp2_with fail
  refine (rintq_good rb _ 0 65536 _ HR1.out HBY.out (m : Int) (encG m) (numP_enc (by omega) (by omega) _) (encG_pos _) (by omega) (by omega)).mono ?_
  rintro e w2 ⟨rfl, hR, hg⟩
  rw [drop_enc] at hR
  have HR2 := Lib.hid hR
  have HB2 := Lib.hid (show Below w.heap.size w w2 from grown_below hg HB1.out hrb)
  have hsz2 : w1.heap.size ≤ w2.heap.size := hg.size
  clear hR hg
  go_wp2_with fail
  go_loopw [7, 8, 9, 10, 11, 23] (fun v ah q er rs i wr => ∃ k : Nat, k ≤ m ∧ i = .int .i64 k ∧ ah = .string (lastT ⟨#[]⟩ (D.take k)) ∧ Hid (wr.ownsRow w1.heap.size 9 1 v k (texts (D.take k))) ∧ Hid (Rq wr rb (codeL (lastT ⟨#[]⟩ (D.take k)) (D.drop k))) ∧ Hid (Below w.heap.size w wr) ∧ w1.heap.size ≤ wr.heap.size) (fun _ _ _ _ _ i _ => m - (intOf i).toNat)
  case atStart => exact ⟨0, Nat.zero_le _, rfl, rfl, Lib.hid (World.ownsRow_nil _ _ _ _), HR2, HB2, hsz2⟩
  case round =>
    obtain ⟨k, hk, rfl, rfl, HO, HR, HBW, hsz⟩ := hrel
    by_cases hlt : k < m
    · have hkz : k < D.length := by have := HM.out; omega
      have hki : (k : Int) < (m : Int) := by omega
      have hk0 : (0 : Int) ≤ (k : Int) := by omega
      obtain ⟨s, hs⟩ : ∃ s, s = D[k] := ⟨_, rfl⟩
      obtain ⟨a, ha⟩ : ∃ a, a = lastT ⟨#[]⟩ (D.take k) := ⟨_, rfl⟩
      have hssz : s.size ≤ 100 := by rw [hs]; exact HS.out _ (List.getElem_mem _)
      have hs24 : s.size ≤ 24 := by rw [hs]; exact (HF.out _ (List.getElem_mem _)).2
      have hasz : a.size ≤ 100 := by
        rw [ha]
        unfold lastT
        cases hg : (D.take k).getLast? with
        | none => show (⟨#[]⟩ : ByteArray).size ≤ 100; decide
        | some x => exact HS.out x (List.mem_of_mem_take (List.mem_of_getLast? hg))
      have HTK := Lib.hid (show D.take (k + 1) = D.take k ++ [s] by rw [hs]; exact take_snoc D k hkz)
      obtain ⟨j, hj⟩ : ∃ j, j = cpT a s := ⟨_, rfl⟩
      have hja : j ≤ a.size := by rw [hj]; exact (cpT_le a s).1
      have hjs : j ≤ s.size := by rw [hj]; exact (cpT_le a s).2
      have hts := tailT_size s j
      obtain ⟨rest, hrest⟩ : ∃ rest, rest = codeL s (D.drop (k + 1)) := ⟨_, rfl⟩
      have HREST := Lib.hid hrest
      have HRA := Lib.hid (show Rq wr rb (encV (j : Int) ++ (encV ((tailT s j).size : Int) ++ (sB (tailT s j) ++ rest))) by
        have h1 := HR.out
        rw [← ha, List.drop_eq_getElem_cons hkz, ← hs, codeL, codeT, ← hj, ← hrest] at h1
        simpa using h1)
      have HBY2 := Lib.hid (show bytes (encV (j : Int) ++ (encV ((tailT s j).size : Int) ++ (sB (tailT s j) ++ rest))) from bytes_app' (encV_bytes' _) (bytes_app' (encV_bytes' _) (bytes_app' (sB_bytes _) (by rw [hrest]; exact codeL_bytes _ _))))
      have HGL := Lib.hid (show a.extract 0 j ++ tailT s j = s by rw [hj]; exact glue a s)
      have HSTO := Lib.hid (strOf_sB (tailT s j))
      have hsl : ∀ W, Sem.run Try.prog (Instr.slice 9 (.string a) none (some (.int .i64 (j : Int))) none) W = .ok (.string (a.extract 0 j)) W := fun W => slice_to a j hja W
      have hx1 : (a.extract 0 j).size = j := by simp [ByteArray.size_extract]; omega
      obtain ⟨la, hla⟩ : ∃ la, la = a.size := ⟨_, rfl⟩
      have hla2 : a.size = la := hla.symm
      have HLA := Lib.hid hla
      have HSS := Lib.hid hs
      have HJ := Lib.hid hj
      have hjla : j ≤ la := by omega
      have htz : (tailT s j).size ≤ 24 := by omega
      have HTS := Lib.hid hts
      rw [← ha]
      have HAA := Lib.hid ha
      clear hs ha hj hrest hla hts
      go_wp2_with fail
      refine (rintq_good rb _ 0 (la : Int) _ HRA.out HBY2.out (j : Int) (encG j) (numP_enc (by omega) (by omega) _) (encG_pos _) (by omega) (by omega)).mono ?_
      rintro e w3 ⟨rfl, hR3, hg3⟩
      rw [drop_enc] at hR3
      have HR3 := Lib.hid hR3
      have HBY3 := Lib.hid (show bytes (encV ((tailT s j).size : Int) ++ (sB (tailT s j) ++ rest)) from fun x hx => HBY2.out x (List.mem_append_right _ hx))
      have HB3 := Lib.hid (show Below w.heap.size w w3 from grown_below hg3 HBW.out hrb)
      have HO3 := Lib.hid (own_other HO.out hg3 hlt1)
      have hsz3 : w1.heap.size ≤ w3.heap.size := Nat.le_trans hsz hg3.size
      clear hR3 hg3
      go_wp2_with fail
      refine (rtextq_good rb _ 24 _ HR3.out HBY3.out (tailT s j).size (encG (tailT s j).size) (numP_enc (by omega) (by omega) _) (encG_pos _) (by have := HTS.out; omega) (by rw [List.length_append, encG_len, List.length_append, sB_length]; omega)).mono ?_
      rintro e w4 ⟨rfl, hR4, hg4⟩
      have hrd : ((encV ((tailT s j).size : Int) ++ (sB (tailT s j) ++ rest)).drop (encG ((tailT s j).size : Int))).take (tailT s j).size = sB (tailT s j) := by
        rw [drop_enc, ← sB_length, List.take_left]
      have hrd2 : (encV ((tailT s j).size : Int) ++ (sB (tailT s j) ++ rest)).drop (encG ((tailT s j).size : Int) + (tailT s j).size) = rest := by
        rw [← List.drop_drop, drop_enc, ← sB_length, List.drop_left]
      rw [hrd, HSTO.out]
      rw [hrd2] at hR4
      have HR4 := Lib.hid hR4
      have HB4 := Lib.hid (show Below w.heap.size w w4 from grown_below hg4 HB3.out hrb)
      have HO4 := Lib.hid (own_other HO3.out hg4 hlt1)
      have hsz4 : w1.heap.size ≤ w4.heap.size := Nat.le_trans hsz3 hg4.size
      have hx2 : (tailT s j).size ≤ 100 := by have := HTS.out; omega
      have hgl := HGL.out
      clear hR4 hg4 hrd hrd2 hlt
      go_wp2_with (at_builtin; refine wpList_append_own _ rfl _ _ 22 rfl w1.heap.size 9 i0 (.string ⟨#[]⟩) 1 16 Try.underlying22 hi0 hz0 hz1 hz2 rfl (by decide) _ _ _ rfl (HO4.out.alloc _) ⟨w4.heap.size, 0, none⟩ 1 1 [.string s] rfl rfl ?c1 ?c2 ?c3 ?c4 ?c5 ?_)
      case c1 => intro j u hj; match j, hj with | 0, hj => simp at hj; subst hj; simp [Addr.add]
      case c2 => intro u hu; simp at hu; subst hu; rfl
      case c3 => unfold maxLen; omega
      case c4 => omega
      case c5 => simp; omega
      intro v5 w5 ho5 hg5 _
      have hb45 : Below w1.heap.size w4 w5 := ((Below.refl _ w4).alloc hsz4 _).trans (grown_own (HO4.out.alloc _) hg5 (by simp; omega))
      have HO5 := Lib.hid (show w5.ownsRow w1.heap.size 9 1 v5 (k + 1) (texts (D.take (k + 1))) by rw [HTK.out, ← texts_append]; exact ho5)
      have HR5 := Lib.hid (show Rq w5 rb (codeL (lastT ⟨#[]⟩ (D.take (k + 1))) (D.drop (k + 1))) by rw [HTK.out, lastT_snoc, ← HREST.out]; exact HR4.out.under hb45 hlt1)
      have HB5 := Lib.hid (show Below w.heap.size w w5 from HB4.out.trans (hb45.mono HB1.out.size))
      have HS5 := Lib.hid (show Value.string s = .string (lastT ⟨#[]⟩ (D.take (k + 1))) by rw [HTK.out, lastT_snoc])
      have hsz5 : w1.heap.size ≤ w5.heap.size := Nat.le_trans hsz4 hb45.size
      clear ho5 hg5 hb45 hgl hsl
      go_wp2_with fail
      go_roundw
      case rel => exact ⟨k + 1, by omega, by go_num, HS5.out, HO5, HR5, HB5, hsz5⟩
      case measure => simp [intOf]; omega
    · have hge : ¬ (k : Int) < (m : Int) := by omega
      obtain rfl : k = m := by omega
      obtain ⟨A9, c9, rfl, h1, h2, h3⟩ := own_slice HO.out
      have HR9 := Lib.hid (show Row wr A9 (texts D) by rw [List.take_of_length_le (by have := HM.out; omega)] at h1; exact h1)
      clear hlt h1
      go_wp2_with fail
      refine (new_any A9 k c9 D _ HR9.out HM.out (by omega) (fun s hs => by have := HS.out s hs; omega)).mono ?_
      rintro e w6 h
      rcases h with ⟨_, p, rfl, hp, hb⟩ | ⟨hbad, _⟩
      case inr => exact absurd ⟨HF.out, by rw [dictL_id HRS.out]; have := HM.out; omega⟩ hbad
      case inl =>
        rw [dictL_id HRS.out] at hp
        have HP := Lib.hid hp
        have HB6 := Lib.hid (bthen HBW.out hb)
        clear hp hb
        go_wp2_with fail
        refine (bytes_any p D _ HP.out (by have := HM.out; omega) HS.out).mono ?_
        rintro e w7 ⟨A7, c7, rfl, hr7, hc7, hn7, hb⟩
        have HB7 := Lib.hid (bthen HB6.out hb)
        have HP7 := Lib.hid (HP.out.keep hb)
        have HR7 := Lib.hid hr7
        have HBI1 := Lib.hid (bytes_in hr7)
        have HBI2 := Lib.hid (bytes_in (HA.out.keep (Nat.le_refl _) HB7.out))
        clear hb hr7
        go_wp2_with fail
        refine (Try.bytes_Equal_all A7 A (bytesD D).length c7 n c (bytesD D) (bytesD D) _ rfl HN.out.symm HBI1.out (by rw [HN.out]; exact HBI2.out)).mono ?_
        rintro e w8 ⟨rfl, rfl⟩
        have eqt : (Lib.bytesOf (bytesD D) == Lib.bytesOf (bytesD D)) = true := by simp
        rw [eqt]
        clear eqt
        go_wp2_with fail
        go_ret2
        exact ⟨p, rfl, HP7.out, HB7.out⟩
end Go.Proofs.Ytgegmbkjkiifaaa
