/- The law NibbleBack: its walk. -/
import Derived.Test.YtfioeiejaeoefaaI
import Derived.Laws.BitsLemmas
namespace Go.Proofs.Ytfioeiejaeoefaa
open Go.ChangeShapes Go.WideShapes Go.Deep Go.RowKit
set_option linter.unusedSimpArgs false
set_option linter.unusedVariables false
variable {H : Type} {enc : TypeId × Value → H} {w : World} {base : Nat} {held : Bool}
theorem bytes_opened {A : Option Addr} {len cap fuel : Nat} {x : DataW H × List MemPlace} (hu : DataW.trod enc Try.prog w base (fun _ => true) held fuel 24 (Value.slice A len cap).cells.toList = some x) :
    ∃ bs : List Int, Row w A (bs.map (Value.int .u8)) ∧ len ≤ cap ∧ cap ≤ maxLen ∧ len = bs.length ∧ bytes bs ∧ (A = none → cap = 0) := by
  rcases open_ints Try.underlying24 Try.underlying5 (by kernel_rfl) hu with ⟨hcs, _⟩ | ⟨x, l, c, zs, hcs, _, hl, hm, hz, _, hcell, hwz⟩
  · simp [Value.cells] at hcs
    obtain ⟨rfl, rfl, rfl⟩ := hcs
    exact ⟨[], .inl rfl, Nat.le_refl _, by simp [maxLen], rfl, by intro x hx; simp at hx, fun _ => rfl⟩
  · simp [Value.cells] at hcs
    obtain ⟨rfl, rfl, rfl⟩ := hcs
    obtain ⟨ys, h1, h2, h3, h4, h5⟩ := row_opened hl hm hz hcell hwz
    exact ⟨ys, h1, h2, h3, h4.symm, fun z hz => by have := bounds_u8 (h5 z hz); omega, fun h => by cases h⟩
theorem packL_bytes (L : List Nat) (W : Nat) : bytes (packL L W) := by
  intro x hx
  obtain ⟨j, _, rfl⟩ := List.mem_map.1 hx
  have := byteF_lt (bitL_le L W) (L.length * W) j
  omega
theorem packL_length (L : List Nat) (W : Nat) : (packL L W).length = sizeN L.length W := by rw [packL, packS_length]
theorem fits8 (n W : Nat) : n * W ≤ 8 * sizeN n W := by unfold sizeN; omega
theorem unp_pack {L : List Nat} {W : Nat} (h : ∀ x ∈ L, x < 2 ^ W) : unp (packL L W) W L.length = L := by
  apply List.ext_getElem
  · simp [unp]
  · intro i h1 h2
    have hg : L.getD i 0 = L[i] := by rw [List.getD_eq_getElem?_getD, List.getElem?_eq_getElem h2]; rfl
    simp only [unp, List.getElem_map, List.getElem_range, packL]
    rw [num_pack (fits8 _ _) h2 (by rw [hg]; exact h _ (List.getElem_mem h2)), hg]
theorem strOf_sz (l : List Int) : (strOfNums l).size = l.length := strOfNums_size l
set_option maxHeartbeats 1000000 in
theorem at_pack (g c : Nat) (n : Nat) (L : List Nat) (i W : Nat) (x : Nat) (w : World) (hA : Row w (some ⟨g, 0, none⟩) ((packL L W).map (Value.int .u8))) (hs : ∀ x ∈ L, x < 2 ^ W) (hW : W ≤ 64) (hl : L.length ≤ 300) (hn : n = (packL L W).length) (hi : i < L.length) (hx : L[i] = x) :
    Calls Try.prog 17 #[.slice (some ⟨g, 0, none⟩) n c, .int .i64 (i : Nat), .int .i64 (W : Nat)] w fun e w' => e = .returned (.tuple #[.int .u64 (x : Nat), .int .i64 0]) ∧ w = w' := by
  have hxm : x < 2 ^ W := by rw [← hx]; exact hs _ (List.getElem_mem hi)
  rcases Nat.eq_zero_or_pos W with h0 | h0
  · subst h0
    obtain rfl : x = 0 := by simpa using hxm
    exact at_zero _ _ _ _ _ (by omega)
  · have h1 : i * W + W ≤ L.length * W := by rw [← Nat.succ_mul]; exact Nat.mul_le_mul_right _ hi
    have h2 := fits8 L.length W
    have h3 : L.length * W ≤ 300 * 64 := Nat.mul_le_mul hl hW
    have h4 : sizeN L.length W ≤ 3000 := by unfold sizeN; omega
    have hn2 : n = sizeN L.length W := by rw [hn, packL_length]
    have hlt : i < n * 8 / W := by
      rw [Nat.lt_div_iff_mul_lt h0] 
      omega
    refine (at_good _ n c (packL L W) i W w hA hn (packL_bytes L W) (by omega) h0 hW hlt).mono fun e w' ⟨he, hw⟩ => ⟨?_, hw⟩
    have hg : L.getD i 0 = x := by rw [List.getD_eq_getElem?_getD, List.getElem?_eq_getElem hi, Option.getD_some, hx]
    rw [he]
    unfold packL
    rw [num_pack (fits8 _ _) hi (by rw [hg]; exact hxm), hg]
theorem and7 (m : Int) : ∃ q : Nat, q ≤ 7 ∧ bits .and .i64 m 7 = (q : Int) := by
  refine ⟨(BitVec.ofInt 64 m &&& BitVec.ofInt 64 7).toNat, ?_, ?_⟩
  · rw [BitVec.toNat_and]; exact Nat.and_le_right
  · have h : (BitVec.ofInt 64 m &&& BitVec.ofInt 64 7).toNat ≤ 7 := by rw [BitVec.toNat_and]; exact Nat.and_le_right
    show IntKind.i64.wrap ((BitVec.ofInt 64 m &&& BitVec.ofInt 64 7).toNat : Int) = _
    rw [IntKind.wrap_i64]; omega
theorem conv_zero (D : Option Addr) (c : Nat) (w : World) : Sem.run Try.prog (convert 24 9 (.slice D 0 c)) w = .ok (.string (strOfNums [])) w := by
  cases D with
  | none => exact run_convert_bytes_nil w 24 5 Try.underlying24 Try.underlying5 0 c 9 Try.underlying9
  | some a =>
    have hl : (loadCells a 0).run Try.prog w = .ok (([] : List Int).map (Value.int .u8)).toArray w := by
      have := run_loadCells_list (P := Try.prog) w a [] (fun j v hj => by simp at hj)
      simpa using this
    rw [run_convert_bytes_string w 24 9 5 _ 0 c Try.underlying24 Try.underlying5 Try.underlying9, run_bytesToString w _ 0 c [] hl]
    rfl
theorem conv_any {w : World} {D : Option Addr} {n c : Nat} {xs : List Int} (h : Row w D (xs.map (Value.int .u8))) (hn : n = xs.length) :
    Sem.run Try.prog (convert 24 9 (.slice D n c)) w = .ok (.string (strOfNums xs)) w := by
  rcases h with h | ⟨b, off, rfl, hc⟩
  · simp at h; subst h; subst hn; exact conv_zero D c w
  · exact conv_row (.inr ⟨b, off, rfl, hc⟩) hn
theorem repack {bs : List Int} {W m : Nat} (hb : bytes bs) (hW : 0 < W ∨ m = 0) (hl : bs.length = sizeN m W) (hp : numF (bitB bs) (m * W) (8 * bs.length - m * W) = 0) : packL (unp bs W m) W = bs := by
  rcases Nat.eq_zero_or_pos W with h0 | h0
  · have hm : m = 0 := by omega
    subst h0 hm
    have : bs = [] := List.eq_nil_of_length_eq_zero (by rw [hl]; rfl)
    subst this
    rfl
  · unfold packL
    rw [unp_length]
    refine (again h0 hb hl (unp_length bs W m) (fun j hj => ?_)).2 ?_
    · rw [List.getD_eq_getElem?_getD, List.getElem?_eq_getElem (by rw [unp_length]; exact hj)]
      simp [unp]
    · rw [hl] at hp; exact hp
theorem unp_width (bs : List Int) (W m : Nat) (hW : W ≤ 64) : widthN (unp bs W m) ≤ W := by
  refine (widthN_le (unp_small bs W m hW) W).2 (fun x hx => ?_)
  obtain ⟨j, _, rfl⟩ := List.mem_map.1 hx
  exact numF_lt (bitB_le bs) _ _
theorem unpack_of (A : Option Addr) (n c : Nat) (bs : List Int) (mi : Int) (m W : Nat) (w : World) (hA : Row w A (bs.map (Value.int .u8))) (hz : n = bs.length) (hb : bytes bs) (hn : n ≤ 1000000) (hm : m ≤ 65536) (hW : W ≤ 64)
    (hs : n = sizeN m W) (hp : numF (bitB bs) (m * W) (8 * n - m * W) = 0) (hmi : mi = (m : Int)) :
    Calls Try.prog 15 #[.slice A n c, .int .i64 mi, .int .i64 (W : Nat)] w (Unpacked w (unp bs W m)) := by subst hmi; exact unpack_good A n c bs m W w hA hz hb hn hm hW hs hp
theorem unpack_no (A : Option Addr) (n c : Nat) (bs : List Int) (mi : Int) (m W : Nat) (w : World) (hA : Row w A (bs.map (Value.int .u8))) (hz : n = bs.length) (hb : bytes bs) (hn : n ≤ 1000000) (hm : m ≤ 65536) (hW : W ≤ 64)
    (hs : ¬ (n = sizeN m W ∧ numF (bitB bs) (m * W) (8 * n - m * W) = 0)) (hmi : mi = (m : Int)) :
    Calls Try.prog 15 #[.slice A n c, .int .i64 mi, .int .i64 (W : Nat)] w fun e w' => e = .returned (.tuple #[.slice none 0 0, .int .i64 71]) ∧ w = w' := by subst hmi; exact unpack_wrong A n c bs m W w hA hz hb hn hm hW hs
theorem pack_of (A : Option Addr) (n c : Nat) (L : List Nat) (W : Nat) (w : World) (hA : Row w A (u64s L)) (hn : n ≤ 65536) (hz : n = L.length) (hs : small L) (hW : W ≤ 64) (hw : widthN L ≤ W) {X : Int} (hX : X = (W : Int)) :
    Calls Try.prog 9 #[.slice A n c, .int .i64 X] w (Packed w (packL L W)) := by subst hX; exact pack_good A n c L W w hA hn hz hs hW hw
set_option maxRecDepth 100000 in
set_option maxHeartbeats 4000000 in
theorem back_main (A : Option Addr) (n c : Nat) (L : List Nat) (more : Int) (D : Option Addr) (nb cb : Nat) (bs : List Int) (w : World) (hA : Row w A (u64s L)) (hz : n = L.length) (hs : small L) (hn : n ≤ 300)
    (hD : Row w D (bs.map (Value.int .u8))) (hzb : nb = bs.length) (hb : bytes bs) (hnb : nb ≤ 300) (hm1 : -9223372036854775808 ≤ more) (hm2 : more ≤ 9223372036854775807) :
    Calls Try.prog 5 #[.slice A n c, .int .i64 more, .slice D nb cb] w fun e w' => e = .returned (.bool true) ∧ Below w.heap.size w w' := by
  have hn0 : decide ((300 : Int) < (n : Int)) = false := by simp; omega
  have hn1 : decide ((300 : Int) < (nb : Int)) = false := by simp; omega
  have HZ := Lib.hid hz
  have HS := Lib.hid hs
  have HA := Lib.hid hA
  have HD := Lib.hid hD
  have HZB := Lib.hid hzb
  have HB := Lib.hid hb
  obtain ⟨V, hV⟩ : ∃ V, V = widthN L := ⟨_, rfl⟩
  have hV64 : V ≤ 64 := by rw [hV]; exact widthN_le64 L
  have HV := Lib.hid hV
  clear hz hs hA hD hzb hb hV
  obtain ⟨q, hq7, hqe⟩ := and7 more
  obtain ⟨W, hWe⟩ : ∃ W : Nat, min ((V : Int) + (q : Int)) 64 = (W : Int) := ⟨min (V + q) 64, by omega⟩
  have hVW : V ≤ W := by omega
  have hW64 : W ≤ 64 := by omega
  have HWID := Lib.hid (show widthN L ≤ W by rw [← HV.out]; exact hVW)
  have HLT := Lib.hid ((widthN_le HS.out W).1 HWID.out)
  go_enter Try.func5, Try.ntmps5
  go_wp2_with fail
  refine (width_any A n c L _ HA.out (by omega) HZ.out HS.out).mono ?_
  rintro e w1 ⟨rfl, rfl⟩
  rw [← HV.out]
  go_wp2_with fail
  refine (pack_good A n c L W _ HA.out (by omega) HZ.out HS.out hW64 HWID.out).mono ?_
  rintro e w1 ⟨g, rfl, hg, hk, hB1⟩
  obtain ⟨P, hP⟩ : ∃ P, P = packL L W := ⟨_, rfl⟩
  obtain ⟨S, hS⟩ : ∃ S, S = P.length := ⟨_, rfl⟩
  have hSn : S = sizeN n W := by rw [hS, hP, packL_length, ← HZ.out]
  have hS3 : S ≤ 3000 := by
    have h3 : n * W ≤ 300 * 64 := Nat.mul_le_mul hn hW64
    rw [hSn]; unfold sizeN; omega
  rw [← hP] at hk ⊢
  rw [← hS]
  have HP := Lib.hid hP
  have HSS := Lib.hid hS
  have HSN := Lib.hid hSn
  have HRP := Lib.hid (u8s_row hk)
  have HB1 := Lib.hid hB1
  clear hP hS hSn hk hg hB1 hqe hWe hVW hV64 hq7
  go_wp2_with fail
  refine (unpack_good _ S S P n W _ HRP.out HSS.out (by rw [HP.out]; exact packL_bytes L W) (by omega) (by omega) hW64 HSN.out (by rw [HP.out, packL, HZ.out]; exact num_pad _)).mono ?_
  rintro e w2 ⟨g2, rfl, hr2, hB2⟩
  have hun : unp P W n = L := by rw [HP.out, HZ.out]; exact unp_pack HLT.out
  rw [hun] at hr2 ⊢
  rw [← HZ.out]
  have HR2 := Lib.hid hr2
  have HB2 := Lib.hid (bthen HB1.out hB2)
  replace HRP := Lib.hid (HRP.out.keep (Nat.le_refl _) hB2)
  clear hun hr2 hB2 HB1
  go_wp2_with fail
  refine (same_yes _ _ n n n c L _ HR2.out (HA.out.keep (Nat.le_refl _) HB2.out) HZ.out HZ.out (by omega)).mono ?_
  rintro e w3 ⟨rfl, hB3⟩
  have HBW := Lib.hid (bthen HB2.out hB3)
  have hA3 := HA.out.keep (Nat.le_refl _) HBW.out
  have hRP3 := HRP.out.keep (Nat.le_refl _) hB3
  have HRP3 := Lib.hid hRP3
  clear hB3 hRP3 HB2 HR2 HRP
  go_wp2_with fail
  go_loop [12] (fun i => ∃ k : Nat, k ≤ n ∧ i = .int .i64 k) (fun i => n - (intOf i).toNat)
  case atStart => exact ⟨0, Nat.zero_le _, rfl⟩
  case round =>
    obtain ⟨k, hk, rfl⟩ := hrel
    by_cases hlt : k < n
    · have hkz : k < L.length := by have := HZ.out; omega
      obtain ⟨b, off, hA', hcell⟩ := u64s_cell hA3 hkz
      obtain ⟨x, hx⟩ : ∃ x, L[k] = x := ⟨_, rfl⟩
      rw [hx] at hcell
      have HX := Lib.hid hx
      clear hx
      subst hA'
      go_wp2_with fail
      refine (at_pack g S S L k W x _ (by rw [← HP.out]; exact HRP3.out) HLT.out hW64 (by have := HZ.out; omega) (by rw [← HP.out]; exact HSS.out) hkz HX.out).mono ?_
      rintro e w4 ⟨rfl, rfl⟩
      clear HX hkz
      go_wp2_with fail
      go_round
      case rel => exact ⟨k + 1, by omega, by go_num⟩
      case measure => simp [intOf]; omega
    · clear hA3 HRP3 HSS HP HSN
      rcases Nat.eq_zero_or_pos W with hW0 | hW0
      · have HM : Hid ((0 : Nat) ≤ 65536) := Lib.hid (by omega)
        have hWd : decide (0 < W) = false := by simp; omega
        have hWd2 : decide ((0 : Int) < (W : Int)) = false := by simp; omega
        clear hW0
        by_cases hgood : nb = sizeN 0 W ∧ numF (bitB bs) (0 * W) (8 * nb - 0 * W) = 0
        · have HG := Lib.hid hgood
          clear hgood
          go_wp2_with fail
          refine (unpack_of D nb cb bs _ 0 W _ (HD.out.keep (Nat.le_refl _) HBW.out) HZB.out HB.out (by omega) HM.out hW64 HG.out.1 HG.out.2 rfl).mono ?_
          rintro e w4 ⟨g3, rfl, hr3, hB3⟩
          obtain ⟨U, hU⟩ : ∃ U, U = unp bs W 0 := ⟨_, rfl⟩
          have hUl : U.length = 0 := by rw [hU, unp_length]
          rw [← hU] at hr3 ⊢
          rw [hUl]
          have HU := Lib.hid hU
          have HUL := Lib.hid hUl
          have HR3 := Lib.hid hr3
          have HB3 := Lib.hid (bthen HBW.out hB3)
          clear hU hUl hr3 hB3 HBW
          go_wp2_with fail
          refine (pack_of _ _ _ U W _ HR3.out HM.out HUL.out.symm (by rw [HU.out]; exact unp_small bs W _ hW64) hW64 (by rw [HU.out]; exact unp_width bs W _ hW64) rfl).mono ?_
          rintro e w5 ⟨g4, rfl, hg4, hk4, hB4⟩
          have hrep : packL U W = bs := by rw [HU.out]; exact repack HB.out (.inr rfl) (by rw [← HZB.out]; exact HG.out.1) (by rw [← HZB.out]; exact HG.out.2)
          rw [hrep, ← HZB.out]
          rw [hrep] at hk4
          have HK4 := Lib.hid hk4
          have HB4 := Lib.hid (bthen HB3.out hB4)
          clear hrep hk4 hB4 HB3 HR3 hg4
          go_wp2_with fail
          refine (alive_any _).mono ?_
          rintro e w6 ⟨rfl, hB5⟩
          obtain ⟨sa, hsa⟩ : ∃ s, s = strOfNums bs := ⟨_, rfl⟩
          have HB5 := Lib.hid (bthen HB4.out hB5)
          have ca := conv_row (c := nb) (u8s_row (HK4.out.below hB5 HK4.out.lt)) (n := nb) HZB.out
          have cb := conv_any (c := cb) (HD.out.keep (Nat.le_refl _) HB5.out) HZB.out
          rw [← hsa] at ca cb
          clear hsa hB5 HB4 HK4
          go_wp2
          go_ret
          exact ⟨rfl, HB5.out⟩
        · have HG := Lib.hid hgood
          clear hgood
          go_wp2_with fail
          refine (unpack_no D nb cb bs _ 0 W _ (HD.out.keep (Nat.le_refl _) HBW.out) HZB.out HB.out (by omega) HM.out hW64 HG.out rfl).mono ?_
          rintro e w4 ⟨rfl, rfl⟩
          go_wp2_with fail
          refine (alive_any _).mono ?_
          rintro e w6 ⟨rfl, hB5⟩
          have HB5 := Lib.hid (bthen HBW.out hB5)
          clear hB5 HBW
          go_wp2
          go_ret
          exact ⟨rfl, HB5.out⟩

      · have HWM : Hid (0 < W ∨ 8 * nb / W = 0) := Lib.hid (.inl hW0)
        obtain ⟨M, hM⟩ : ∃ M, M = 8 * nb / W := ⟨_, rfl⟩
        have hMi : (8 * (nb : Int)) / (W : Int) = (M : Int) := by rw [hM, Int.natCast_ediv, Int.natCast_mul]; rfl
        have hM2 : M ≤ 8 * nb := by rw [hM]; exact Nat.div_le_self _ _
        have HM : Hid (M ≤ 65536) := Lib.hid (by omega)
        rw [← hM] at HWM
        clear hM
        by_cases hgood : nb = sizeN M W ∧ numF (bitB bs) (M * W) (8 * nb - M * W) = 0
        · have HG := Lib.hid hgood
          clear hgood
          go_wp2_with fail
          refine (unpack_of D nb cb bs _ M W _ (HD.out.keep (Nat.le_refl _) HBW.out) HZB.out HB.out (by omega) HM.out hW64 HG.out.1 HG.out.2 rfl).mono ?_
          rintro e w4 ⟨g3, rfl, hr3, hB3⟩
          obtain ⟨U, hU⟩ : ∃ U, U = unp bs W M := ⟨_, rfl⟩
          have hUl : U.length = M := by rw [hU, unp_length]
          rw [← hU] at hr3 ⊢
          rw [hUl]
          have HU := Lib.hid hU
          have HUL := Lib.hid hUl
          have HR3 := Lib.hid hr3
          have HB3 := Lib.hid (bthen HBW.out hB3)
          clear hU hUl hr3 hB3 HBW
          go_wp2_with fail
          refine (pack_of _ _ _ U W _ HR3.out HM.out HUL.out.symm (by rw [HU.out]; exact unp_small bs W _ hW64) hW64 (by rw [HU.out]; exact unp_width bs W _ hW64) rfl).mono ?_
          rintro e w5 ⟨g4, rfl, hg4, hk4, hB4⟩
          have hrep : packL U W = bs := by rw [HU.out]; exact repack HB.out HWM.out (by rw [← HZB.out]; exact HG.out.1) (by rw [← HZB.out]; exact HG.out.2)
          rw [hrep, ← HZB.out]
          rw [hrep] at hk4
          have HK4 := Lib.hid hk4
          have HB4 := Lib.hid (bthen HB3.out hB4)
          clear hrep hk4 hB4 HB3 HR3 hg4
          go_wp2_with fail
          refine (alive_any _).mono ?_
          rintro e w6 ⟨rfl, hB5⟩
          obtain ⟨sa, hsa⟩ : ∃ s, s = strOfNums bs := ⟨_, rfl⟩
          have HB5 := Lib.hid (bthen HB4.out hB5)
          have ca := conv_row (c := nb) (u8s_row (HK4.out.below hB5 HK4.out.lt)) (n := nb) HZB.out
          have cb := conv_any (c := cb) (HD.out.keep (Nat.le_refl _) HB5.out) HZB.out
          rw [← hsa] at ca cb
          clear hsa hB5 HB4 HK4
          go_wp2
          go_ret
          exact ⟨rfl, HB5.out⟩
        · have HG := Lib.hid hgood
          clear hgood
          go_wp2_with fail
          refine (unpack_no D nb cb bs _ M W _ (HD.out.keep (Nat.le_refl _) HBW.out) HZB.out HB.out (by omega) HM.out hW64 HG.out rfl).mono ?_
          rintro e w4 ⟨rfl, rfl⟩
          go_wp2_with fail
          refine (alive_any _).mono ?_
          rintro e w6 ⟨rfl, hB5⟩
          have HB5 := Lib.hid (bthen HBW.out hB5)
          clear hB5 HBW
          go_wp2
          go_ret
          exact ⟨rfl, HB5.out⟩
set_option maxRecDepth 100000 in
set_option maxHeartbeats 1000000 in
theorem back_any (A : Option Addr) (n c : Nat) (L : List Nat) (more : Int) (D : Option Addr) (nb cb : Nat) (bs : List Int) (w : World) (hA : Row w A (u64s L)) (hz : n = L.length) (hs : small L)
    (hD : Row w D (bs.map (Value.int .u8))) (hzb : nb = bs.length) (hb : bytes bs) (hm : -9223372036854775808 ≤ more ∧ more ≤ 9223372036854775807) :
    Calls Try.prog 5 #[.slice A n c, .int .i64 more, .slice D nb cb] w fun e w' => e = .returned (.bool true) ∧ Below w.heap.size w w' := by
  by_cases hl1 : 300 < n
  · clear hz hzb
    have hl : (300 : Int) < (n : Int) := by omega
    go_enter Try.func5, Try.ntmps5
    go_wp2_with fail
    refine (alive_any _).mono ?_
    rintro e w1 ⟨rfl, hb⟩
    go_wp2
    go_ret
    exact ⟨rfl, hb⟩
  · by_cases hl2 : 300 < nb
    · clear hz hzb
      have hd : decide ((300 : Int) < (n : Int)) = false := by simp; omega
      have hl : (300 : Int) < (nb : Int) := by omega
      go_enter Try.func5, Try.ntmps5
      go_wp2_with fail
      refine (alive_any _).mono ?_
      rintro e w1 ⟨rfl, hb⟩
      go_wp2
      go_ret
      exact ⟨rfl, hb⟩
    · exact back_main A n c L more D nb cb bs w hA hz hs (by omega) hD hzb hb (by omega) hm.1 hm.2
end Go.Proofs.Ytfioeiejaeoefaa
