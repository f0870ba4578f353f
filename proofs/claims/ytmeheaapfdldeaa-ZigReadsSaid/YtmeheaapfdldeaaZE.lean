/- The law ZigReads: its walk. -/
import Derived.Test.YtmeheaapfdldeaaZD
import Derived.Deep.QuietTactic
import Derived.BigQuiet
namespace Go.Proofs.Ytmeheaapfdldeaa
open Go.RowKit
set_option linter.unusedSimpArgs false
set_option linter.unusedVariables false
theorem left_quiet {rb : Nat} {bs : List Int} {w : World} {n D : Nat} (hR : Rd w rb bs) (hD : bs.length = D) : Calls Try.prog 26 #[.pointer (some ⟨rb, 0, none⟩)] (w.drewN n) fun e w'' => e = .returned (.int .i64 D) ∧ ∃ m, w'' = w.drewN m :=
  (left_of hD rb _ (hR.keep (below_drewN (Below.refl _ _) n))).mono fun _ _ ⟨h1, h2⟩ => ⟨h1, n, h2.symm⟩
theorem Bx.of_cells {w : World} {mb : Nat} {V : Value} (h : w.heap[mb]? = some (.cells #[V, .int .i64 0, .bool false] 40)) (hz : ∀ o, w.frozen? ⟨mb, o, none⟩ = false) : Bx w mb V 0 false := by
  refine ⟨by simp [World.cell?, h], by simp [World.cell?, h], by simp [World.cell?, h], fun o => ⟨hz o, fun ho => ?_⟩⟩
  simp [World.cell?, h]
  omega
set_option maxRecDepth 100000 in
set_option maxHeartbeats 4000000 in
theorem reads_any (A As : Option Addr) (n c ns cs : Nat) (bs : List Int) (L : List Act5) (w : World) (hA : Row w A (bs.map (Value.int .u8))) (hb : bytes bs) (hz : n = bs.length) (hnc : n ≤ c) (hnil : A = none → c = 0) (hS0 : Script w As L) (hzs : ns = L.length) (hns : ns ≤ 9223372036854775807) :
    Calls Try.prog 5 #[.slice A n c, .slice As ns cs] w fun e w' => e = .returned (.bool true) ∧ Below w.heap.size w w' := by
  have HZ := Lib.hid hz
  have HZS := Lib.hid hzs
  have HBY := Lib.hid hb
  have HA := Lib.hid hA
  have HN := Lib.hid hnil
  have HS0 := Lib.hid hS0
  clear hz hb hA hnil hzs hS0
  by_cases hlong : 400 < n
  · go_enter Try.func5, Try.ntmps5
    go_wp2_with fail
    refine (alive_any _).mono ?_
    rintro e w1 ⟨rfl, hB⟩
    have HB := Lib.hid hB
    clear hB
    go_wp2_with fail
    go_ret
    exact ⟨rfl, HB.out⟩
  · go_enter Try.func5, Try.ntmps5
    go_wp2_with fail
    refine (open_all A n c bs _ HA.out (by omega) HZ.out HN.out).mono ?_
    rintro e w1 ⟨rb, rfl, hrb, hR1, hB1⟩
    have HR1 := Lib.hid hR1
    have HB1 := Lib.hid hB1
    have hrlt := hR1.lt
    clear hR1 hB1
    obtain ⟨w2, hw2⟩ : ∃ w2, w2 = w1.alloc (.cells #[.slice A n c, .int .i64 0, .bool false] 40) := ⟨_, rfl⟩
    obtain ⟨mb, hmb⟩ : ∃ mb, mb = w1.heap.size := ⟨_, rfl⟩
    have HX := Lib.hid (show Bx w2 mb (.slice A n c) 0 false from by
      subst hw2 hmb
      exact Bx.of_cells (by show (w1.heap.push _)[w1.heap.size]? = _; exact Array.getElem?_push_size) (fun o => by simp))
    have HR2 := Lib.hid (show Rd w2 rb bs from by subst hw2; exact HR1.out.keep (bpush (Below.refl _ _) _))
    have HB2 := Lib.hid (show Below w.heap.size w w2 from by subst hw2; exact bpush HB1.out _)
    have hm2 : mb < w2.heap.size := by subst hw2 hmb; simp
    have hmw : w.heap.size ≤ mb := by rw [hmb]; exact HB1.out.size
    have hne : rb ≠ mb := by omega
    have HW2 := Lib.hid hw2
    have HMB := Lib.hid hmb
    clear hw2 hmb hrlt
    go_wp2_with fail
    rw [← HMB.out, ← HW2.out]
    go_loopw [7] (fun i wr => ∃ (k I : Nat), k ≤ ns ∧ k ≤ 60 ∧ i = .int .i64 k ∧ I ≤ n ∧ Hid (Rd wr rb (bs.drop I)) ∧ Hid (∃ bad, Bx wr mb (.slice A n c) I bad) ∧ Hid (Below w.heap.size w wr) ∧ mb < wr.heap.size)
      (fun i _ => 60 - (intOf i).toNat)
    case atStart => exact ⟨0, 0, by omega, by omega, rfl, by omega, HR2, Lib.hid ⟨false, HX.out⟩, HB2, hm2⟩
    case round =>
      clear HX HR2 HB2 hm2 HW2 HMB HR1 HB1
      obtain ⟨k, I, hk, hk6, rfl, hI, HR, HXE, HB, hml⟩ := hrel
      by_cases hlt : k < ns ∧ k < 60
      · obtain ⟨hlt, hlt6⟩ := hlt
        have hkz : k < L.length := by have := HZS.out; omega
        obtain ⟨bq, off, hA', c0, c1, c2', c3, c4⟩ := (HS0.out.keep HB.out).at hkz
        obtain ⟨a, ha⟩ : ∃ a, a = L[k] := ⟨_, rfl⟩
        rw [← ha] at c0 c1 c2' c3 c4
        obtain ⟨bad, hX0⟩ := HXE.out
        clear ha HXE
        subst hA'
        have hk0 : (0 : Int) ≤ (k : Int) := by omega
        have hk1 : (k : Int) < (ns : Int) := by omega
        have hk2 : (k : Int) < 60 := by omega
        obtain ⟨w4, hw4⟩ : ∃ w4, w4 = wr.alloc (.cells #[.int .i64 a.kind, .int .i64 a.n, .int .i64 a.least, .int .i64 a.most, .string a.s] 30) := ⟨_, rfl⟩
        obtain ⟨pb, hpb⟩ : ∃ pb, pb = wr.heap.size := ⟨_, rfl⟩
        have b0 : w4.cell? ⟨pb, 0, none⟩ = some (.int .i64 a.kind) := by subst hw4 hpb; simp
        have b1 : w4.cell? ⟨pb, 1, none⟩ = some (.int .i64 a.n) := by subst hw4 hpb; simp
        have b2 : w4.cell? ⟨pb, 2, none⟩ = some (.int .i64 a.least) := by subst hw4 hpb; simp
        have b3 : w4.cell? ⟨pb, 3, none⟩ = some (.int .i64 a.most) := by subst hw4 hpb; simp
        have hrl : rb < wr.heap.size := HR.out.lt
        have HR4 := Lib.hid (show Rd w4 rb (bs.drop I) from by subst hw4; exact HR.out.keep (bpush (Below.refl _ _) _))
        have HX4 := Lib.hid (show Bx w4 mb (.slice A n c) I bad from by subst hw4; exact hX0.grown (World.grownBy_alloc _ _ none) hml (by simp))
        have HB4 := Lib.hid (show Below w.heap.size w w4 from by subst hw4; exact bpush HB.out _)
        have hm4 : mb < w4.heap.size := by subst hw4; simp; omega
        have hp1 : pb ≠ rb := by omega
        have HW4 := Lib.hid hw4
        have HPB := Lib.hid hpb
        clear hw4 hX0 HR HB hrl hpb
        have hbl : bs.length ≤ 1000000 := by have := HZ.out; omega
        have hIl : I ≤ bs.length := by have := HZ.out; omega
        by_cases hkind : a.kind = 1
        · obtain ⟨v, err, J, hJ, hp, hq⟩ := int_pair bs HBY.out hbl I hIl a.least a.most
          have HP := Lib.hid hp
          have HQ := Lib.hid hq
          clear hp hq hbl hIl
          rw [hkind] at b0
          rw [hkind] at HW4
          rw [hkind] at c0
          go_wp2_with fail
          rw [← HPB.out]
          rw [← HW4.out]
          refine (HP.out rb w4 HR4.out).mono ?_
          rintro e w5 ⟨rfl, hR5, hg5⟩
          have HR5 := Lib.hid hR5
          have HX5 := Lib.hid (HX4.out.grown hg5 hm4 (by simp; omega))
          have HB5 := Lib.hid (grown_below hg5 HB4.out hrb)
          have hm5 : mb < w5.heap.size := Nat.lt_of_lt_of_le hm4 hg5.size
          have e2 := grown_cell hg5 hp1 b2
          have e3 := grown_cell hg5 hp1 b3
          clear hR5 hg5 HR4 HX4 HB4 hm4 b0 b1 b2 b3
          go_wp2_with fail
          rw [HZ.out] at HX5 ⊢
          refine (HQ.out mb A c bad w5 HX5.out (rowx_of HA.out HB5.out hmw)).mono ?_
          rintro e w6 ⟨rfl, ⟨bad6, hX6⟩, hg6⟩
          rw [← HZ.out] at HX5 hX6 ⊢
          have HX6 := Lib.hid hX6
          have HR6 := Lib.hid (HR5.out.far HX5.out hg6 hne)
          have HB6 := Lib.hid (grown_below hg6 HB5.out hmw)
          have hm6 : mb < w6.heap.size := Nat.lt_of_lt_of_le hm5 hg6.size
          clear hX6 hg6 HR5 HX5 HB5 hm5 e2 e3
          have HD := Lib.hid (show (bs.drop J).length = n - J by rw [List.length_drop, ← HZ.out])
          have hJn : J ≤ n := by have := HZ.out; omega
          have hsub : IntKind.i64.wrap ((n : Int) - (J : Int)) = ((n - J : Nat) : Int) := by rw [IntWalk.i64_in _ (by omega)]; omega
          obtain ⟨D, hD⟩ : ∃ D, D = n - J := ⟨_, rfl⟩
          rw [← hD] at hsub HD
          have hm1 : w6.cell? ⟨mb, 1, none⟩ = some (.int .i64 J) := HX6.out.2.1
          clear hD hJ
          go_wp2_with fail
          go_quiet ((go_at_call 26; exact left_quiet HR6.out HD.out))
          go_wp2_with fail
          go_roundw
          case rel => exact ⟨k + 1, J, by omega, by omega, by go_num, hJn, Lib.hid (HR6.out.keep (below_drewN (Below.refl _ _) _)), Lib.hid ⟨_, HX6.out.drew _⟩, Lib.hid (below_drewN HB6.out _), hm6⟩
          case measure => simp [intOf]; omega
        · by_cases hkind2 : a.kind = 2
          · obtain ⟨v, err, J, hJ, hp, hq⟩ := text_pair bs HBY.out hbl I hIl a.most
            have HP := Lib.hid hp
            have HQ := Lib.hid hq
            clear hp hq hbl hIl
            rw [hkind2] at b0
            rw [hkind2] at HW4
            rw [hkind2] at c0
            go_wp2_with fail
            rw [← HPB.out]
            rw [← HW4.out]
            refine (HP.out rb w4 HR4.out).mono ?_
            rintro e w5 ⟨rfl, hR5, hg5⟩
            have HR5 := Lib.hid hR5
            have HX5 := Lib.hid (HX4.out.grown hg5 hm4 (by simp; omega))
            have HB5 := Lib.hid (grown_below hg5 HB4.out hrb)
            have hm5 : mb < w5.heap.size := Nat.lt_of_lt_of_le hm4 hg5.size
            have e2 := grown_cell hg5 hp1 b2
            have e3 := grown_cell hg5 hp1 b3
            clear hR5 hg5 HR4 HX4 HB4 hm4 b0 b1 b2 b3
            go_wp2_with fail
            rw [HZ.out] at HX5 ⊢
            refine (HQ.out mb A c bad w5 HX5.out (rowx_of HA.out HB5.out hmw) HN.out (by have := HZ.out; omega)).mono ?_
            rintro e w6 ⟨rfl, ⟨bad6, hX6⟩, hg6⟩
            rw [← HZ.out] at HX5 hX6 ⊢
            have HX6 := Lib.hid hX6
            have HR6 := Lib.hid (HR5.out.far HX5.out hg6 hne)
            have HB6 := Lib.hid (grown_below hg6 HB5.out hmw)
            have hm6 : mb < w6.heap.size := Nat.lt_of_lt_of_le hm5 hg6.size
            clear hX6 hg6 HR5 HX5 HB5 hm5 e2 e3
            have HD := Lib.hid (show (bs.drop J).length = n - J by rw [List.length_drop, ← HZ.out])
            have hJn : J ≤ n := by have := HZ.out; omega
            have hsub : IntKind.i64.wrap ((n : Int) - (J : Int)) = ((n - J : Nat) : Int) := by rw [IntWalk.i64_in _ (by omega)]; omega
            obtain ⟨D, hD⟩ : ∃ D, D = n - J := ⟨_, rfl⟩
            rw [← hD] at hsub HD
            have hm1 : w6.cell? ⟨mb, 1, none⟩ = some (.int .i64 J) := HX6.out.2.1
            clear hD hJ
            go_wp2_with fail
            go_quiet ((go_at_call 26; exact left_quiet HR6.out HD.out))
            go_wp2_with fail
            go_roundw
            case rel => exact ⟨k + 1, J, by omega, by omega, by go_num, hJn, Lib.hid (HR6.out.keep (below_drewN (Below.refl _ _) _)), Lib.hid ⟨_, HX6.out.drew _⟩, Lib.hid (below_drewN HB6.out _), hm6⟩
            case measure => simp [intOf]; omega
          · by_cases hkind3 : a.kind = 3
            · obtain ⟨xs, err, J, hJ, hp, hq⟩ := bytes_pair bs HBY.out hbl I hIl a.n
              have HP := Lib.hid hp
              have HQ := Lib.hid hq
              clear hp hq hbl hIl
              rw [hkind3] at b0
              rw [hkind3] at HW4
              rw [hkind3] at c0
              go_wp2_with fail
              rw [← HPB.out]
              rw [← HW4.out]
              refine (HP.out rb w4 HR4.out).mono ?_
              rintro e w5 ⟨v1, ⟨rfl, hR5, hg5⟩, hs1⟩
              have HR5 := Lib.hid hR5
              have HS1 := Lib.hid hs1
              have HM4 := Lib.hid hm4
              clear hs1
              have HX5 := Lib.hid (HX4.out.grown hg5 hm4 (by simp; omega))
              have HB5 := Lib.hid (grown_below hg5 HB4.out hrb)
              have hm5 : mb < w5.heap.size := Nat.lt_of_lt_of_le hm4 hg5.size
              have e2 := grown_cell hg5 hp1 b1
              have e3 := grown_cell hg5 hp1 b3
              clear hR5 hg5 HR4 HX4 HB4 hm4 b0 b1 b2 b3
              go_wp2_with fail
              rw [HZ.out] at HX5 ⊢
              refine (HQ.out mb A c bad w5 HX5.out (rowx_of HA.out HB5.out hmw) HN.out (by have := HZ.out; omega)).mono ?_
              rintro e w6 ⟨v2, ⟨rfl, ⟨bad6, hX6⟩, hg6⟩, hs2⟩
              have cv1 := conv_sv (HS1.out.keep hg6 HM4.out)
              have cv2 := conv_sv hs2
              obtain ⟨s, hs⟩ : ∃ s, s = strOfNums xs := ⟨_, rfl⟩
              rw [← hs] at cv1 cv2
              clear hs hs2 HS1 HM4
              rw [← HZ.out] at HX5 hX6 ⊢
              have HX6 := Lib.hid hX6
              have HR6 := Lib.hid (HR5.out.far HX5.out hg6 hne)
              have HB6 := Lib.hid (grown_below hg6 HB5.out hmw)
              have hm6 : mb < w6.heap.size := Nat.lt_of_lt_of_le hm5 hg6.size
              clear hX6 hg6 HR5 HX5 HB5 hm5 e2 e3
              have HD := Lib.hid (show (bs.drop J).length = n - J by rw [List.length_drop, ← HZ.out])
              have hJn : J ≤ n := by have := HZ.out; omega
              have hsub : IntKind.i64.wrap ((n : Int) - (J : Int)) = ((n - J : Nat) : Int) := by rw [IntWalk.i64_in _ (by omega)]; omega
              obtain ⟨D, hD⟩ : ∃ D, D = n - J := ⟨_, rfl⟩
              rw [← hD] at hsub HD
              have hm1 : w6.cell? ⟨mb, 1, none⟩ = some (.int .i64 J) := HX6.out.2.1
              clear hD hJ
              go_wp2_with fail
              go_quiet ((go_at_call 26; exact left_quiet HR6.out HD.out))
              go_wp2_with fail
              go_roundw
              case rel => exact ⟨k + 1, J, by omega, by omega, by go_num, hJn, Lib.hid (HR6.out.keep (below_drewN (Below.refl _ _) _)), Lib.hid ⟨_, HX6.out.drew _⟩, Lib.hid (below_drewN HB6.out _), hm6⟩
              case measure => simp [intOf]; omega
            · have hJ : I ≤ bs.length := hIl
              clear hbl hIl
              have hkx : (a.kind == 1) = false := by simp; omega
              have hky : (a.kind == 2) = false := by simp; omega
              have hkz' : (a.kind == 3) = false := by simp; omega
              have HD := Lib.hid (show (bs.drop I).length = n - I by rw [List.length_drop, ← HZ.out])
              have hJn : I ≤ n := by have := HZ.out; omega
              have hsub : IntKind.i64.wrap ((n : Int) - (I : Int)) = ((n - I : Nat) : Int) := by rw [IntWalk.i64_in _ (by omega)]; omega
              obtain ⟨D, hD⟩ : ∃ D, D = n - I := ⟨_, rfl⟩
              rw [← hD] at hsub HD
              have hm1 : w4.cell? ⟨mb, 1, none⟩ = some (.int .i64 I) := HX4.out.2.1
              clear hD hJ
              go_wp2_with fail
              rw [← HPB.out]
              rw [← HW4.out]
              go_quiet ((go_at_call 26; exact left_quiet HR4.out HD.out))
              go_wp2_with fail
              go_roundw
              case rel => exact ⟨k + 1, I, by omega, by omega, by go_num, hJn, Lib.hid (HR4.out.keep (below_drewN (Below.refl _ _) _)), Lib.hid ⟨_, HX4.out.drew _⟩, Lib.hid (below_drewN HB4.out _), hm4⟩
              case measure => simp [intOf]; omega
      · by_cases hkn : k < ns
        · have hk1 : (k : Int) < (ns : Int) := by omega
          have hk2 : ¬ (k : Int) < 60 := by omega
          go_wp2_with fail
          refine (alive_any _).mono ?_
          rintro e w3 ⟨rfl, hB3⟩
          have HBF := Lib.hid (bthen HB.out hB3)
          clear hB3
          go_wp2_with fail
          go_ret
          exact ⟨rfl, HBF.out⟩
        · have hk1 : ¬ (k : Int) < (ns : Int) := by omega
          go_wp2_with fail
          refine (alive_any _).mono ?_
          rintro e w3 ⟨rfl, hB3⟩
          have HBF := Lib.hid (bthen HB.out hB3)
          clear hB3
          go_wp2_with fail
          go_ret
          exact ⟨rfl, HBF.out⟩
end Go.Proofs.Ytmeheaapfdldeaa
