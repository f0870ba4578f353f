import Derived.Test.YtmeheaapfdldeaaJ
import Derived.Deep.RegionHeld3
import Derived.IntWalk
namespace Go.Proofs.Ytmeheaapfdldeaa
open Go.RowKit
set_option linter.unusedSimpArgs false
theorem groups_small {u : Nat} (h : u < 128) : groupsZ u = 1 := by
  have : Lib.bitLen u ≤ 7 := by
    have := Lib.bitLenAux_fuel 7 u h 64 (by omega)
    unfold Lib.bitLen; rw [this]; exact bitLenAux_le 7 u
  unfold groupsZ; omega
theorem groups_more {u : Nat} (h : 128 ≤ u) (h2 : u < 2 ^ 64) : groupsZ u = 1 + groupsZ (u / 128) := by
  have e := Lib.bitLen_shift 7 u h h2
  have e2 : u / 2 ^ 7 = u / 128 := rfl
  rw [e2] at e
  have h1 : 1 ≤ Lib.bitLen (u / 128) := by unfold Lib.bitLen; rw [Lib.bitLenAux, if_neg (by omega)]; omega
  unfold groupsZ; rw [e]; omega
theorem strOf_sB (s : ByteArray) : strOfNums (sB s) = s := by
  apply ByteArray.ext
  apply Array.ext'
  rw [strOfNums_data, sB, List.map_map]
  conv => rhs; rw [← List.map_id s.data.toList]
  apply List.map_congr_left
  intro b _
  simp
theorem conv_row {w : World} {b off c : Nat} {xs : List Int} (h : Row w (some ⟨b, off, none⟩) (xs.map (Value.int .u8))) {n : Nat} (hn : n = xs.length) :
    Sem.run Try.prog (convert 28 9 (.slice (some ⟨b, off, none⟩) n c)) w = .ok (.string (strOfNums xs)) w := by
  subst hn
  refine run_convert_bytes_arg (P := Try.prog) w 28 5 Try.underlying28 Try.underlying5 b off xs.length c xs rfl (fun i hi => ?_) 9 Try.underlying9
  rcases h with h | ⟨b', off', he, hc⟩
  · simp at h; subst h; simp at hi
  · cases he
    rw [List.getD_eq_getElem?_getD, List.getElem?_eq_getElem hi]
    exact hc i _ (by rw [List.getElem?_map, List.getElem?_eq_getElem hi]; rfl)
theorem row_on {W w1 : World} {A : Option Addr} {xs : List Value} (hb : Below W.heap.size W w1) (h : Row W A xs) : Row w1 A xs := h.keep (Nat.le_refl _) hb
theorem below_on {V W w1 : World} (hb : Below W.heap.size W w1) (h : Below V.heap.size V W) : Below V.heap.size V w1 := bthen h hb
theorem conv_q {w : World} {b off c : Nat} {xs : List Int} (h : Row w (some ⟨b, off, none⟩) (xs.map (Value.int .u8))) {n : Nat} {q : ByteArray} (hn : n = xs.length) (hq : q = strOfNums xs) :
    Sem.run Try.prog (convert 28 9 (.slice (some ⟨b, off, none⟩) n c)) w = .ok (.string q) w := by subst hq; exact conv_row h hn
set_option maxRecDepth 100000 in
set_option maxHeartbeats 2000000 in
theorem lengths_any (n : Int) (s : ByteArray) (w : World) (h1 : -9223372036854775808 ≤ n) (h2 : n ≤ 9223372036854775807) (hs : s.size ≤ 9223372036854775807) :
    Calls Try.prog 9 #[.int .i64 n, .string s] w fun e w' => e = .returned (.bool true) ∧ Below w.heap.size w w' := by
  by_cases hlong : 400 < s.size
  · go_enter Try.func9, Try.ntmps9
    go_wp2_with fail
    refine (alive_any _).mono ?_
    rintro e w1 ⟨rfl, hb⟩
    go_wp2
    go_ret
    exact ⟨rfl, hb⟩
  obtain ⟨u, hu⟩ : ∃ u : Nat, foldZ n = u := ⟨(foldZ n).toNat, by have := fold_bd h1 h2; omega⟩
  have hu1 : (u : Int) ≤ 18446744073709551615 := by rw [← hu]; exact (fold_bd h1 h2).2
  have HU := Lib.hid hu
  clear hu
  go_enter Try.func9, Try.ntmps9
  go_wp2_with fail
  refine (fold_any _ _ h1 h2).mono ?_
  rintro e w1 ⟨rfl, rfl⟩
  rw [HU.out]
  go_wp2_with fail
  go_loop [5, 6] (fun t x => ∃ k v : Nat, t = .int .i64 k ∧ x = .int .u64 v ∧ v ≤ u ∧ 1 ≤ k ∧ k ≤ 10 ∧ Hid (groupsZ u + 1 = k + groupsZ v)) (fun _ x => (intOf x).toNat)
  case atStart => exact ⟨1, u, rfl, rfl, Nat.le_refl _, by omega, by omega, by show _ = _; omega⟩
  case round =>
    obtain ⟨k, v, rfl, rfl, hvu, hk1, hk2, HK⟩ := hrel
    by_cases hbig : 128 ≤ v
    · have hbig' : (128 : Int) ≤ (v : Int) := by omega
      have hv64 : v < 2 ^ 64 := by omega
      have hm := groups_more hbig hv64
      have hgb := groups_bd u
      have hgv := groups_bd (v / 128)
      have hkk : k + 1 ≤ 10 := by have := HK.out; omega
      have HK2 := Lib.hid (show groupsZ u + 1 = k + 1 + groupsZ (v / 128) by have := HK.out; omega)
      clear hm hgb hgv HK
      go_wp2
      go_round
      case rel => exact ⟨k + 1, v / 128, by go_num, by go_num, by omega, by omega, hkk, HK2⟩
      case measure => simp [intOf]; omega
    · have hbig' : (v : Int) < 128 := by omega
      have hk : k = groupsZ u := by have := HK.out; rw [groups_small (u := v) (by omega)] at this; omega
      obtain ⟨G, hG⟩ : ∃ G, G = groupsZ u := ⟨_, rfl⟩
      have hk' : k = G := by omega
      subst hk'
      have HN := Lib.hid (show ([] ++ encV n : List Int).length = k by rw [List.nil_append, encV, encI_length, HU.out, Int.toNat_natCast, hG])
      clear HK hk hG
      go_wp2_with fail
      refine (text_of (bs := []) (n := 0) (c := 0) rfl _ (.inl rfl) (by omega) rfl (by omega) (by omega)).mono ?_
      rintro e w1 ⟨g7, c7, rfl, hc7, hown7, hB⟩
      have hrow7 := MadeB.row hown7
      clear hown7
      obtain ⟨L, hL⟩ : ∃ L, L = (encV s.size).length := ⟨_, rfl⟩
      have hL1 : 1 ≤ L ∧ L ≤ 10 := by rw [hL, encV, encI_length]; exact groups_bd _
      obtain ⟨hL1, hL2⟩ := hL1
      have hL7 : ([] ++ encV s.size ++ sB s : List Int).length = L + s.size := by rw [List.nil_append, List.length_append, ← hL, sB_length]
      rw [hL7] at hc7 ⊢
      rw [List.nil_append] at hrow7
      have HL := Lib.hid hL
      clear hL hL7
      go_wp2_with fail
      refine (int_of (bs := []) (n := 0) (c := 0) rfl _ (.inl rfl) (by omega) rfl (by omega) (by omega) (by omega)).mono ?_
      rintro e w2 ⟨g8, c8, rfl, hc8, hown8, hB2⟩
      have hrow8 := MadeB.row hown8
      rw [List.nil_append] at hrow8 hc8 ⊢
      rw [← HL.out] at hc8 ⊢
      replace hrow7 := hrow7.keep (Nat.le_refl _) hB2
      replace hB := bthen hB hB2
      clear hown8 hB2
      obtain ⟨q, hq⟩ : ∃ q, q = strOfNums (encV s.size) := ⟨_, rfl⟩
      have HQ := Lib.hid hq
      clear hq
      have hp := hrow7.part L
      have t1 : ((encV s.size ++ sB s).take L) = encV s.size := by rw [HL.out]; exact List.take_left
      have t2 : ((encV s.size ++ sB s).drop L) = sB s := by rw [HL.out]; exact List.drop_left
      rw [t1, t2] at hp
      obtain ⟨hra, hrb⟩ := hp
      rw [Nat.zero_add] at hrb
      clear t1 t2 hrow7
      have hV : Below w2.heap.size w2 w2 := Below.refl _ _
      by_cases hcl : c7 = L
      · have hsz : s.size = 0 := by omega
        subst hcl
        have hrb : Row w2 (some ⟨g7, 0, none⟩) ((sB s).map (Value.int .u8)) := .inl (by rw [List.map_eq_nil_iff]; exact List.eq_nil_of_length_eq_zero (by rw [sB_length]; exact hsz))
        have HSZ := Lib.hid (show 0 = (sB s).length by rw [sB_length]; exact hsz.symm)
        clear hsz
        have hs0 : (0 : Int) ≤ (c7 : Int) := by omega
        have hs1 : (c7 : Int) ≤ (c7 : Int) + (s.size : Int) := by omega
        have hs4 : c7 ≤ c7 + s.size := by omega
        have hwr : IntKind.i64.wrap ((c7 : Int) + (s.size : Int)) = (c7 : Int) + (s.size : Int) := IntWalk.i64_in _ (by omega)
        go_wp2_with fail
        go_region_held3 (fun w' => (Sem.run Try.prog (convert 28 9 (.slice (some ⟨g7, 0, none⟩) 0 0)) w' = .ok (.string s) w') ∧
            (Sem.run Try.prog (convert 28 9 (.slice (some ⟨g7, 0, none⟩) c7 c7)) w' = .ok (.string q) w') ∧
            (Sem.run Try.prog (convert 28 9 (.slice (some ⟨g8, 0, none⟩) c7 c8)) w' = .ok (.string q) w') ∧
            Row w' (some ⟨g7, 0, none⟩) ((sB s).map (Value.int .u8)) ∧ Row w' (some ⟨g7, 0, none⟩) ((encV s.size).map (Value.int .u8)) ∧ Row w' (some ⟨g8, 0, none⟩) ((encV s.size).map (Value.int .u8)) ∧
            Below w2.heap.size w2 w')
          (first
            | (go_split_ands
               exact ⟨conv_q (row_on hb (by assumption)) HSZ.out (strOf_sB s).symm, conv_q (row_on hb (by assumption)) HL.out HQ.out, conv_q (row_on hb (by assumption)) HL.out HQ.out, row_on hb (by assumption), row_on hb (by assumption), row_on hb (by assumption), below_on hb (by assumption)⟩)
            | exact ⟨conv_q (w := w2.drew) hrb HSZ.out (strOf_sB s).symm, conv_q (w := w2.drew) hra HL.out HQ.out, conv_q (w := w2.drew) hrow8 HL.out HQ.out, hrb, hra, hrow8, (Below.refl _ _).drew⟩)
          (first | (go_at_call 10; refine (alive_any _).mono ?_; rintro e w6 ⟨rfl, hb⟩) | (go_at_call 15; refine (int_of (bs := []) (n := 0) (c := 0) rfl _ (.inl rfl) (by omega) rfl (by omega) (by omega) (by omega)).mono ?_; rintro e w6 ⟨gx, cx, rfl, hcx, hownx, hb⟩; rw [HN.out]))
        go_split_ands
        go_wp2
        go_ret
        exact ⟨rfl, bthen hB (by assumption)⟩
      · have hs0 : (0 : Int) ≤ (L : Int) := by omega
        have hs1 : (L : Int) ≤ (L : Int) + (s.size : Int) := by omega
        have hs2 : L ≤ c7 := by omega
        have hs3 : (L : Int) ≤ (c7 : Int) := by omega
        have hs4 : L ≤ L + s.size := by omega
        have hwr : IntKind.i64.wrap ((L : Int) + (s.size : Int)) = (L : Int) + (s.size : Int) := IntWalk.i64_in _ (by omega)
        go_wp2_with fail
        go_region_held3 (fun w' => (Sem.run Try.prog (convert 28 9 (.slice (some ⟨g7, L, none⟩) s.size (c7 - L))) w' = .ok (.string s) w') ∧
            (Sem.run Try.prog (convert 28 9 (.slice (some ⟨g7, 0, none⟩) L c7)) w' = .ok (.string q) w') ∧
            (Sem.run Try.prog (convert 28 9 (.slice (some ⟨g8, 0, none⟩) L c8)) w' = .ok (.string q) w') ∧
            Row w' (some ⟨g7, L, none⟩) ((sB s).map (Value.int .u8)) ∧ Row w' (some ⟨g7, 0, none⟩) ((encV s.size).map (Value.int .u8)) ∧ Row w' (some ⟨g8, 0, none⟩) ((encV s.size).map (Value.int .u8)) ∧
            Below w2.heap.size w2 w')
          (first
            | (go_split_ands
               exact ⟨conv_q (row_on hb (by assumption)) (sB_length s).symm (strOf_sB s).symm, conv_q (row_on hb (by assumption)) HL.out HQ.out, conv_q (row_on hb (by assumption)) HL.out HQ.out, row_on hb (by assumption), row_on hb (by assumption), row_on hb (by assumption), below_on hb (by assumption)⟩)
            | exact ⟨conv_q (w := w2.drew) hrb (sB_length s).symm (strOf_sB s).symm, conv_q (w := w2.drew) hra HL.out HQ.out, conv_q (w := w2.drew) hrow8 HL.out HQ.out, hrb, hra, hrow8, (Below.refl _ _).drew⟩)
          (first | (go_at_call 10; refine (alive_any _).mono ?_; rintro e w6 ⟨rfl, hb⟩) | (go_at_call 15; refine (int_of (bs := []) (n := 0) (c := 0) rfl _ (.inl rfl) (by omega) rfl (by omega) (by omega) (by omega)).mono ?_; rintro e w6 ⟨gx, cx, rfl, hcx, hownx, hb⟩; rw [HN.out]))
        go_split_ands
        go_wp2
        go_ret
        exact ⟨rfl, bthen hB (by assumption)⟩
end Go.Proofs.Ytmeheaapfdldeaa
