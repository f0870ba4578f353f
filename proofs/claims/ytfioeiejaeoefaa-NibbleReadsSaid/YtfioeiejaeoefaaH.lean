/- The law NibbleJoin: its walk. -/
import Derived.Test.YtfioeiejaeoefaaG
import Derived.Maps.AppendAt
namespace Go.Proofs.Ytfioeiejaeoefaa
open Go.RowKit
set_option linter.unusedSimpArgs false
theorem size16 (n : Nat) : sizeN n 16 = 2 * n := by unfold sizeN; omega
theorem pack16_length (M : List Nat) : (packL M 16).length = 2 * M.length := by rw [packL, packS_length, size16]
theorem pack16_get {M : List Nat} {j : Nat} (h : j < 2 * M.length) : (packL M 16)[j]? = some ((M.getD (j / 2) 0 / 2 ^ (8 * (j % 2)) % 256 : Nat) : Int) := by
  rw [packL, packS_get (by rw [size16]; exact h)]
  congr 2
  unfold byteF
  rw [show min 8 (M.length * 16 - 8 * j) = 8 from by omega]
  rw [numF_of (x := M.getD (j / 2) 0 / 2 ^ (8 * (j % 2))) 8 (fun i hi => ?_)]
  unfold bitL
  rw [show (8 * j + i) / 16 = j / 2 from by omega, show (8 * j + i) % 16 = 8 * (j % 2) + i from by omega, Nat.pow_add, Nat.div_div_eq_div_mul]
theorem pack16_append (M : List Nat) (a : Nat) (ha : a ≤ M.length) : packL M 16 = packL (M.take a) 16 ++ packL (M.drop a) 16 := by
  apply List.ext_getElem?
  intro j
  have h1 : (packL (M.take a) 16).length = 2 * a := by rw [pack16_length, List.length_take]; omega
  have h2 : (packL (M.drop a) 16).length = 2 * (M.length - a) := by rw [pack16_length, List.length_drop]
  rcases Nat.lt_or_ge j (2 * M.length) with h | h
  · rw [pack16_get h]
    rcases Nat.lt_or_ge j (2 * a) with h3 | h3
    · rw [List.getElem?_append_left (by omega), pack16_get (by rw [List.length_take]; omega)]
      rw [List.getD_eq_getElem?_getD, List.getD_eq_getElem?_getD, List.getElem?_take_of_lt (by omega)]
    · rw [List.getElem?_append_right (by omega), h1, pack16_get (by rw [List.length_drop]; omega)]
      rw [List.getD_eq_getElem?_getD, List.getD_eq_getElem?_getD, List.getElem?_drop, show a + (j - 2 * a) / 2 = j / 2 from by omega, show (j - 2 * a) % 2 = j % 2 from by omega]
  · rw [List.getElem?_eq_none (by rw [pack16_length]; exact h), List.getElem?_eq_none (by rw [List.length_append]; omega)]
theorem strOf_append (a b : List Int) : strOfNums (a ++ b) = strOfNums a ++ strOfNums b := by
  apply ByteArray.ext
  simp [strOfNums]
def mod16 (L : List Nat) : List Nat := L.map (· % 65536)
theorem width16 (M : List Nat) (h : ∀ x ∈ M, x < 65536) : widthN M ≤ 16 :=
  (widthN_le (fun x hx => by have := h x hx; omega) 16).2 (fun x hx => by have := h x hx; omega)
theorem mod16_lt (L : List Nat) : ∀ x ∈ mod16 L, x < 65536 := by
  intro x hx; obtain ⟨y, _, rfl⟩ := List.mem_map.1 hx; omega
theorem and_mask16 (x : Nat) (h : x < 18446744073709551616) : bits .and .u64 (x : Int) 65535 = ((x % 65536 : Nat) : Int) := by
  rw [show (65535 : Int) = ((65535 : Nat) : Int) from rfl, u64_and_nat _ _ h (by omega)]
  exact congrArg Int.ofNat (Nat.and_two_pow_sub_one_eq_mod x 16)
theorem u64s_snoc (l : List Nat) (x : Nat) : u64s (l ++ [x]) = u64s l ++ [.int .u64 (x : Int)] := by simp [u64s]
theorem u64s_take (l : List Nat) (k : Nat) : u64s (l.take k) = (u64s l).take k := by simp [u64s]
theorem Row.parts {w : World} {b off : Nat} {zs : List Value} (h : Row w (some ⟨b, off, none⟩) zs) (t : Nat) :
    Row w (some ⟨b, off, none⟩) (zs.take t) ∧ Row w (some ⟨b, off + t, none⟩) (zs.drop t) := by
  rcases h with h | ⟨b', off', he, hc⟩
  · subst h; exact ⟨.inl (by simp), .inl (by simp)⟩
  · cases he
    refine ⟨.inr ⟨b, off, rfl, fun j u hu => ?_⟩, .inr ⟨b, off + t, rfl, fun j u hu => ?_⟩⟩
    · rcases Nat.lt_or_ge j t with h | h
      · exact hc j u (by rw [List.getElem?_take_of_lt h] at hu; exact hu)
      · rw [List.getElem?_eq_none (by rw [List.length_take]; omega)] at hu; cases hu
    · rw [Nat.add_assoc]
      exact hc (t + j) u (by rw [List.getElem?_drop] at hu; exact hu)
/-- The three packs, and the test behind them. -/
def packOf (M : List Nat) (A : Option Addr) (n c : Nat) (w : World) : Prop := Calls Try.prog 9 #[.slice A n c, .int .i64 16] w (Packed w (packL M 16))
theorem pack16_good (A : Option Addr) (n c : Nat) (M : List Nat) (w : World) (hA : Row w A (u64s M)) (hn : n ≤ 65536) (hz : n = M.length) (hs : ∀ x ∈ M, x < 65536) : packOf M A n c w :=
  pack_good A n c M 16 w hA hn hz (fun x hx => by have := hs x hx; omega) (by omega) (width16 M hs)
set_option maxRecDepth 100000 in
set_option maxHeartbeats 4000000 in
theorem join_any (A : Option Addr) (n c : Nat) (L : List Nat) (a : Int) (w : World) (hA : Row w A (u64s L)) (hz : n = L.length) (hs : small L) (hn : n ≤ maxLen) :
    Calls Try.prog 7 #[.slice A n c, .int .i64 a] w fun e w' => e = .returned (.bool true) ∧ Below w.heap.size w w' := by
  unfold maxLen at hn
  by_cases hlong : 300 < n ∨ a < 0 ∨ (n : Int) < a
  · clear hz
    by_cases h1 : 300 < n
    · have hl : (300 : Int) < (n : Int) := by omega
      clear hlong
      go_enter Try.func7, Try.ntmps7
      go_wp2_with fail
      refine (alive_any _).mono ?_
      rintro e w1 ⟨rfl, hb⟩
      go_wp2
      go_ret
      exact ⟨rfl, hb⟩
    · have hl : decide ((300 : Int) < (n : Int)) = false := by simp; omega
      by_cases h2 : a < 0
      · have hl2 : decide (a < 0) = true := by simpa using h2
        clear hlong h1
        go_enter Try.func7, Try.ntmps7
        go_wp2_with fail
        refine (alive_any _).mono ?_
        rintro e w1 ⟨rfl, hb⟩
        go_wp2
        go_ret
        exact ⟨rfl, hb⟩
      · have hl2 : decide (a < 0) = false := by simpa using h2
        have hl3 : decide ((n : Int) < a) = true := by simp; omega
        have hl4 : (n : Int) < a := by omega
        clear hlong h1 h2
        go_enter Try.func7, Try.ntmps7
        go_wp2_with fail
        refine (alive_any _).mono ?_
        rintro e w1 ⟨rfl, hb⟩
        go_wp2
        go_ret
        exact ⟨rfl, hb⟩
  · obtain ⟨t, rfl⟩ := Int.eq_ofNat_of_zero_le (show 0 ≤ a by omega)
    have hn3 : n ≤ 300 := by omega
    have htn : t ≤ n := by omega
    have hl1 : decide ((300 : Int) < (n : Int)) = false := by simp; omega
    have hl2 : decide ((t : Int) < 0) = false := by simp
    have hl3 : decide ((n : Int) < (t : Int)) = false := by simp; omega
    have hl4 : decide (n < t) = false := by simp; omega
    obtain ⟨i0, hi0, hz0, hz1, hz2⟩ := info_parts Try.info35
    have HZ := Lib.hid hz
    have HS := Lib.hid hs
    have HA := Lib.hid hA
    clear hz hs hlong hn hA
    go_enter Try.func7, Try.ntmps7
    go_wp2_with fail
    go_loopw [5, 6, 27, 28, 29, 30] (fun v i _ _ _ _ wr => ∃ k : Nat, k ≤ n ∧ i = .int .i64 k ∧ wr.ownsRow w.heap.size 35 1 v k (u64s ((mod16 L).take k)) ∧ Below w.heap.size w wr ∧ Hid (k = 0 → v = .slice none 0 0))
      (fun _ i _ _ _ _ _ => n - (intOf i).toNat)
    case atStart => exact ⟨0, Nat.zero_le _, rfl, World.ownsRow_nil _ _ _ _, Below.refl _ _, Lib.hid (fun _ => rfl)⟩
    case round =>
      obtain ⟨k, hk, rfl, hown, hB, HN⟩ := hrel
      by_cases hlt : k < n
      · have hkz : k < L.length := by have := HZ.out; omega
        obtain ⟨b, off, hA', hcell⟩ := u64s_cell (HA.out.keep (Nat.le_refl _) hB) hkz
        obtain ⟨x, hx⟩ : ∃ x, x = L[k] := ⟨_, rfl⟩
        have hxs : x < 18446744073709551616 := HS.out x (by rw [hx]; exact List.getElem_mem _)
        rw [← hx] at hcell
        have HX := Lib.hid (show u64s ((mod16 L).take (k + 1)) = u64s ((mod16 L).take k) ++ [.int .u64 ((x : Int) % 65536)] by
          rw [show ((x : Int) % 65536) = ((x % 65536 : Nat) : Int) from by omega, ← u64s_snoc, take_snoc (mod16 L) k (by simp [mod16]; exact hkz)]; simp [mod16, hx])
        have hmk : bits BinOp.and IntKind.u64 (x : Int) 65535 = (x : Int) % 65536 := by rw [and_mask16 x hxs]; omega
        clear hx hkz HN hxs
        subst hA'
        have hbs := hB.size
        go_wp2_with (at_builtin; refine wpList_append_own _ rfl _ _ 22 rfl w.heap.size 35 i0 (.int .u64 0) 1 8 Try.underlying22 hi0 hz0 hz1 hz2 rfl (by decide) _ _ _ rfl (hown.alloc _) ⟨wr.heap.size, 0, none⟩ 1 1 [.int .u64 ((x : Int) % 65536)] rfl rfl ?c1 ?c2 ?c3 ?c4 ?c5 ?_)
        case c1 => intro j u hj; match j, hj with | 0, hj => simp at hj; subst hj; simp [Addr.add]
        case c2 => intro u hu; simp at hu; subst hu; rfl
        case c3 => unfold maxLen; omega
        case c4 => omega
        case c5 => simp; omega
        intro v' w2 hown' hgrow _
        have hB' : Below w.heap.size w w2 := (bpush hB _).grown hgrow (by simp; omega) (fun k hk => (hown.lt k hk).1)
        have hown2 : w2.ownsRow w.heap.size 35 1 v' (k + 1) (u64s ((mod16 L).take (k + 1))) := by rw [HX.out]; exact hown'
        clear hown' hgrow hB hown
        go_wp2
        go_roundw
        case rel => exact ⟨k + 1, by omega, by go_num, hown2, hB', Lib.hid (fun h => by omega)⟩
        case measure => first | (simp [intOf]; done) | (simp [intOf]; omega)
      · have hkn : k = n := by omega
        have hM : (mod16 L).take k = mod16 L := List.take_of_length_le (by simp [mod16]; have := HZ.out; omega)
        rw [hM] at hown
        have hlen : (mod16 L).length = n := by simp [mod16]; exact HZ.out.symm
        obtain ⟨M, hMM⟩ : ∃ M, M = mod16 L := ⟨_, rfl⟩
        have HM16 := Lib.hid (show ∀ x ∈ M, x < 65536 by rw [hMM]; exact mod16_lt L)
        rw [← hMM] at hown hlen
        have HL := Lib.hid hlen
        clear hM hlen hMM HZ HS HA
        subst hkn
        rcases Nat.eq_zero_or_pos k with hk0 | hk0
        · obtain rfl : t = 0 := by omega
          subst hk0
          have hv := HN.out rfl
          subst hv
          have hM0 : M = [] := List.eq_nil_of_length_eq_zero HL.out
          have HR1 : Hid (Row wr none (u64s (M.take 0))) := Lib.hid (.inl (by rw [hM0]; rfl))
          have HR2 : Hid (Row wr none (u64s (M.drop 0))) := Lib.hid (.inl (by rw [hM0]; rfl))
          have HR3 : Hid (Row wr none (u64s M)) := Lib.hid (.inl (by rw [hM0]; rfl))
          clear hM0 hown HN
          have HT := Lib.hid (show 0 = (M.take 0).length by rw [List.length_take, HL.out]; omega)
          have HD := Lib.hid (show 0 = (M.drop 0).length by rw [List.length_drop, HL.out])
          have HST := Lib.hid (show ∀ x ∈ M.take 0, x < 65536 from fun x hx => HM16.out x (List.mem_of_mem_take hx))
          have HSD := Lib.hid (show ∀ x ∈ M.drop 0, x < 65536 from fun x hx => HM16.out x (List.mem_of_mem_drop hx))
          go_wp2_with fail
          refine (pack16_good _ _ _ (M.take 0) _ HR1.out (by omega) HT.out HST.out).mono ?_
          rintro e w1 ⟨ga, rfl, hga, hka, hBa⟩
          obtain ⟨xa, hxa⟩ : ∃ x, x = packL (M.take 0) 16 := ⟨_, rfl⟩
          have hla : xa.length = 0 := by rw [hxa, pack16_length, ← HT.out]
          rw [← hxa] at hka ⊢
          rw [hla]
          have HXA := Lib.hid hxa
          have HLA := Lib.hid hla
          have HKA := Lib.hid hka
          have HBA := Lib.hid (bthen hB hBa)
          replace HR2 := Lib.hid (HR2.out.keep (Nat.le_refl _) hBa)
          replace HR3 := Lib.hid (HR3.out.keep (Nat.le_refl _) hBa)
          clear hxa hla hka hBa hB HR1 hga
          go_wp2_with fail
          refine (pack16_good _ _ _ (M.drop 0) _ HR2.out (by omega) HD.out HSD.out).mono ?_
          rintro e w2 ⟨gb, rfl, hgb, hkb, hBb⟩
          obtain ⟨xb, hxb⟩ : ∃ x, x = packL (M.drop 0) 16 := ⟨_, rfl⟩
          have hlb : xb.length = 0 := by rw [hxb, pack16_length, ← HD.out]
          rw [← hxb] at hkb ⊢
          rw [hlb]
          have HXB := Lib.hid hxb
          have HLB := Lib.hid hlb
          have HKB := Lib.hid hkb
          have HBB := Lib.hid (bthen HBA.out hBb)
          replace HKA := Lib.hid (HKA.out.below hBb HKA.out.lt)
          replace HR3 := Lib.hid (HR3.out.keep (Nat.le_refl _) hBb)
          clear hxb hlb hkb hBb HBA HR2 hgb
          go_wp2_with fail
          refine (pack16_good _ _ _ M _ HR3.out (by omega) HL.out.symm HM16.out).mono ?_
          rintro e w3 ⟨gc, rfl, hgc, hkc, hBc⟩
          obtain ⟨xc, hxc⟩ : ∃ x, x = packL M 16 := ⟨_, rfl⟩
          have hlc : xc.length = 0 := by rw [hxc, pack16_length, HL.out]
          have hca : xc = xa ++ xb := by rw [hxc, HXA.out, HXB.out]; exact pack16_append M 0 (by rw [HL.out]; omega)
          rw [← hxc] at hkc ⊢
          rw [hlc]
          have HCA := Lib.hid hca
          have HLC := Lib.hid hlc
          have HKC := Lib.hid hkc
          have HBC := Lib.hid (bthen HBB.out hBc)
          replace HKA := Lib.hid (HKA.out.below hBc HKA.out.lt)
          replace HKB := Lib.hid (HKB.out.below hBc HKB.out.lt)
          clear hxc hlc hkc hBc HBB HR3 hgc hca
          go_wp2_with fail
          refine (alive_any _).mono ?_
          rintro e w4 ⟨rfl, hBd⟩
          obtain ⟨sa, hsa⟩ : ∃ s, s = strOfNums xa := ⟨_, rfl⟩
          obtain ⟨sb, hsb⟩ : ∃ s, s = strOfNums xb := ⟨_, rfl⟩
          have ca := conv_row (c := 0) (u8s_row (HKA.out.below hBd HKA.out.lt)) (n := 0) HLA.out.symm
          have cb := conv_row (c := 0) (u8s_row (HKB.out.below hBd HKB.out.lt)) (n := 0) HLB.out.symm
          have cc := conv_row (c := 0) (u8s_row (HKC.out.below hBd HKC.out.lt)) (n := 0) HLC.out.symm
          rw [HCA.out, strOf_append, ← hsa, ← hsb] at cc
          rw [← hsa] at ca
          rw [← hsb] at cb
          have hza : sa.size ≤ 600 := by rw [hsa, strOfNums_size, HLA.out]; omega
          have hzb : sb.size ≤ 600 := by rw [hsb, strOfNums_size, HLB.out]; omega
          have HBD := Lib.hid (bthen HBC.out hBd)
          clear hsa hsb hBd HBC HKA HKB HKC
          go_wp2
          go_ret
          exact ⟨rfl, HBD.out⟩

        · obtain ⟨g, cap, rfl, hkc, hrow⟩ := Row.of_own hown hk0
          have htc : (t : Int) ≤ (cap : Int) := by omega
          have HR1 : Hid (Row wr (some ⟨g, 0, none⟩) (u64s (M.take t))) := Lib.hid (by rw [u64s_take]; exact (hrow.parts t).1)
          have HR3 := Lib.hid hrow
          by_cases hct : cap = t
          · have htk : t = k := by omega
            have HR2 : Hid (Row wr (some ⟨g, 0, none⟩) (u64s (M.drop t))) := Lib.hid (.inl (by rw [List.drop_of_length_le (by rw [HL.out]; omega)]; rfl))
            rw [htk] at hct
            subst htk
            subst hct
            clear hown HN hrow
            have HT := Lib.hid (show cap = (M.take cap).length by rw [List.length_take, HL.out]; omega)
            have HD := Lib.hid (show 0 = (M.drop cap).length by rw [List.length_drop, HL.out]; omega)
            have HST := Lib.hid (show ∀ x ∈ M.take cap, x < 65536 from fun x hx => HM16.out x (List.mem_of_mem_take hx))
            have HSD := Lib.hid (show ∀ x ∈ M.drop cap, x < 65536 from fun x hx => HM16.out x (List.mem_of_mem_drop hx))
            go_wp2_with fail
            refine (pack16_good _ _ _ (M.take cap) _ HR1.out (by omega) HT.out HST.out).mono ?_
            rintro e w1 ⟨ga, rfl, hga, hka, hBa⟩
            obtain ⟨xa, hxa⟩ : ∃ x, x = packL (M.take cap) 16 := ⟨_, rfl⟩
            have hla : xa.length = 2 * cap := by rw [hxa, pack16_length, ← HT.out]
            rw [← hxa] at hka ⊢
            rw [hla]
            have HXA := Lib.hid hxa
            have HLA := Lib.hid hla
            have HKA := Lib.hid hka
            have HBA := Lib.hid (bthen hB hBa)
            replace HR2 := Lib.hid (HR2.out.keep (Nat.le_refl _) hBa)
            replace HR3 := Lib.hid (HR3.out.keep (Nat.le_refl _) hBa)
            clear hxa hla hka hBa hB HR1 hga
            go_wp2_with fail
            refine (pack16_good _ _ _ (M.drop cap) _ HR2.out (by omega) HD.out HSD.out).mono ?_
            rintro e w2 ⟨gb, rfl, hgb, hkb, hBb⟩
            obtain ⟨xb, hxb⟩ : ∃ x, x = packL (M.drop cap) 16 := ⟨_, rfl⟩
            have hlb : xb.length = 0 := by rw [hxb, pack16_length, ← HD.out]
            rw [← hxb] at hkb ⊢
            rw [hlb]
            have HXB := Lib.hid hxb
            have HLB := Lib.hid hlb
            have HKB := Lib.hid hkb
            have HBB := Lib.hid (bthen HBA.out hBb)
            replace HKA := Lib.hid (HKA.out.below hBb HKA.out.lt)
            replace HR3 := Lib.hid (HR3.out.keep (Nat.le_refl _) hBb)
            clear hxb hlb hkb hBb HBA HR2 hgb
            go_wp2_with fail
            refine (pack16_good _ _ _ M _ HR3.out (by omega) HL.out.symm HM16.out).mono ?_
            rintro e w3 ⟨gc, rfl, hgc, hkc, hBc⟩
            obtain ⟨xc, hxc⟩ : ∃ x, x = packL M 16 := ⟨_, rfl⟩
            have hlc : xc.length = 2 * cap := by rw [hxc, pack16_length, HL.out]
            have hca : xc = xa ++ xb := by rw [hxc, HXA.out, HXB.out]; exact pack16_append M cap (by rw [HL.out]; omega)
            rw [← hxc] at hkc ⊢
            rw [hlc]
            have HCA := Lib.hid hca
            have HLC := Lib.hid hlc
            have HKC := Lib.hid hkc
            have HBC := Lib.hid (bthen HBB.out hBc)
            replace HKA := Lib.hid (HKA.out.below hBc HKA.out.lt)
            replace HKB := Lib.hid (HKB.out.below hBc HKB.out.lt)
            clear hxc hlc hkc hBc HBB HR3 hgc hca
            go_wp2_with fail
            refine (alive_any _).mono ?_
            rintro e w4 ⟨rfl, hBd⟩
            obtain ⟨sa, hsa⟩ : ∃ s, s = strOfNums xa := ⟨_, rfl⟩
            obtain ⟨sb, hsb⟩ : ∃ s, s = strOfNums xb := ⟨_, rfl⟩
            have ca := conv_row (c := 2 * cap) (u8s_row (HKA.out.below hBd HKA.out.lt)) (n := 2 * cap) HLA.out.symm
            have cb := conv_row (c := 0) (u8s_row (HKB.out.below hBd HKB.out.lt)) (n := 0) HLB.out.symm
            have cc := conv_row (c := 2 * cap) (u8s_row (HKC.out.below hBd HKC.out.lt)) (n := 2 * cap) HLC.out.symm
            rw [HCA.out, strOf_append, ← hsa, ← hsb] at cc
            rw [← hsa] at ca
            rw [← hsb] at cb
            have hza : sa.size ≤ 600 := by rw [hsa, strOfNums_size, HLA.out]; omega
            have hzb : sb.size ≤ 600 := by rw [hsb, strOfNums_size, HLB.out]; omega
            have HBD := Lib.hid (bthen HBC.out hBd)
            clear hsa hsb hBd HBC HKA HKB HKC
            go_wp2
            go_ret
            exact ⟨rfl, HBD.out⟩

          · have HR2 : Hid (Row wr (some ⟨g, t, none⟩) (u64s (M.drop t))) := Lib.hid (by have := (hrow.parts t).2; rw [Nat.zero_add] at this; simpa [u64s] using this)
            clear hown HN hrow
            have HT := Lib.hid (show t = (M.take t).length by rw [List.length_take, HL.out]; omega)
            have HD := Lib.hid (show k - t = (M.drop t).length by rw [List.length_drop, HL.out])
            have HST := Lib.hid (show ∀ x ∈ M.take t, x < 65536 from fun x hx => HM16.out x (List.mem_of_mem_take hx))
            have HSD := Lib.hid (show ∀ x ∈ M.drop t, x < 65536 from fun x hx => HM16.out x (List.mem_of_mem_drop hx))
            go_wp2_with fail
            refine (pack16_good _ _ _ (M.take t) _ HR1.out (by omega) HT.out HST.out).mono ?_
            rintro e w1 ⟨ga, rfl, hga, hka, hBa⟩
            obtain ⟨xa, hxa⟩ : ∃ x, x = packL (M.take t) 16 := ⟨_, rfl⟩
            have hla : xa.length = 2 * t := by rw [hxa, pack16_length, ← HT.out]
            rw [← hxa] at hka ⊢
            rw [hla]
            have HXA := Lib.hid hxa
            have HLA := Lib.hid hla
            have HKA := Lib.hid hka
            have HBA := Lib.hid (bthen hB hBa)
            replace HR2 := Lib.hid (HR2.out.keep (Nat.le_refl _) hBa)
            replace HR3 := Lib.hid (HR3.out.keep (Nat.le_refl _) hBa)
            clear hxa hla hka hBa hB HR1 hga
            go_wp2_with fail
            refine (pack16_good _ _ _ (M.drop t) _ HR2.out (by omega) HD.out HSD.out).mono ?_
            rintro e w2 ⟨gb, rfl, hgb, hkb, hBb⟩
            obtain ⟨xb, hxb⟩ : ∃ x, x = packL (M.drop t) 16 := ⟨_, rfl⟩
            have hlb : xb.length = 2 * (k - t) := by rw [hxb, pack16_length, ← HD.out]
            rw [← hxb] at hkb ⊢
            rw [hlb]
            have HXB := Lib.hid hxb
            have HLB := Lib.hid hlb
            have HKB := Lib.hid hkb
            have HBB := Lib.hid (bthen HBA.out hBb)
            replace HKA := Lib.hid (HKA.out.below hBb HKA.out.lt)
            replace HR3 := Lib.hid (HR3.out.keep (Nat.le_refl _) hBb)
            clear hxb hlb hkb hBb HBA HR2 hgb
            go_wp2_with fail
            refine (pack16_good _ _ _ M _ HR3.out (by omega) HL.out.symm HM16.out).mono ?_
            rintro e w3 ⟨gc, rfl, hgc, hkc, hBc⟩
            obtain ⟨xc, hxc⟩ : ∃ x, x = packL M 16 := ⟨_, rfl⟩
            have hlc : xc.length = 2 * k := by rw [hxc, pack16_length, HL.out]
            have hca : xc = xa ++ xb := by rw [hxc, HXA.out, HXB.out]; exact pack16_append M t (by rw [HL.out]; omega)
            rw [← hxc] at hkc ⊢
            rw [hlc]
            have HCA := Lib.hid hca
            have HLC := Lib.hid hlc
            have HKC := Lib.hid hkc
            have HBC := Lib.hid (bthen HBB.out hBc)
            replace HKA := Lib.hid (HKA.out.below hBc HKA.out.lt)
            replace HKB := Lib.hid (HKB.out.below hBc HKB.out.lt)
            clear hxc hlc hkc hBc HBB HR3 hgc hca
            go_wp2_with fail
            refine (alive_any _).mono ?_
            rintro e w4 ⟨rfl, hBd⟩
            obtain ⟨sa, hsa⟩ : ∃ s, s = strOfNums xa := ⟨_, rfl⟩
            obtain ⟨sb, hsb⟩ : ∃ s, s = strOfNums xb := ⟨_, rfl⟩
            have ca := conv_row (c := 2 * t) (u8s_row (HKA.out.below hBd HKA.out.lt)) (n := 2 * t) HLA.out.symm
            have cb := conv_row (c := 2 * (k - t)) (u8s_row (HKB.out.below hBd HKB.out.lt)) (n := 2 * (k - t)) HLB.out.symm
            have cc := conv_row (c := 2 * k) (u8s_row (HKC.out.below hBd HKC.out.lt)) (n := 2 * k) HLC.out.symm
            rw [HCA.out, strOf_append, ← hsa, ← hsb] at cc
            rw [← hsa] at ca
            rw [← hsb] at cb
            have hza : sa.size ≤ 600 := by rw [hsa, strOfNums_size, HLA.out]; omega
            have hzb : sb.size ≤ 600 := by rw [hsb, strOfNums_size, HLB.out]; omega
            have HBD := Lib.hid (bthen HBC.out hBd)
            clear hsa hsb hBd HBC HKA HKB HKC
            go_wp2
            go_ret
            exact ⟨rfl, HBD.out⟩
end Go.Proofs.Ytfioeiejaeoefaa
