/- symMergeCmpFunc: one row goes into a stretch. -/
import Derived.Test.YtkfcpmmiimpkbaaSB
import Derived.Test.YtkfcpmmiimpkbaaSC
import Derived.Shelf.SlSortCmp.QuietGrown
namespace Go.Proofs.Ytkfcpmmiimpkbaa
open Go.RowKit Go.Shelf
open Go.Sort hiding Below
set_option linter.unusedSimpArgs false
set_option linter.unusedVariables false
def fG (w0 : World) (z : GZ w0) : RV := z.1.2
/-- Two stretches in order are put together. -/
def SymPost (k4 : Nat) (w0 w : World) (blk off : Nat) (P A B S : List (GZ w0)) (e : Ending) (W' : World) : Prop :=
  e = .returned (.tuple #[]) ∧ ∃ M, SwSt k4 w0 w blk off (P ++ (M ++ S)) W' ∧ SortedF (fG w0) M ∧ SameF (fG w0) (A ++ B) M
set_option maxRecDepth 1000000 in
set_option maxHeartbeats 16000000 in
theorem sym_first (k4 : Nat) (hk4 : k4 = 4) (w0 w W : World) (blk off cap n a b m : Nat) (d0 : Array (GZ w0)) (R : RowK (encG w0) k4 w blk off d0) (hC : CmpLays Try.prog 50 #[] (encG w0) k4 (cfG w0) blk off d0.size w) (hs0 : d0.size = n) (hn : n ≤ 1000000)
    (P B S : List (GZ w0)) (x : GZ w0) (hW : SwSt k4 w0 w blk off (P ++ (x :: (B ++ S))) W) (hL : (P ++ (x :: (B ++ S))).length = n) (hP : P.length = a) (hA : a + 1 = m) (hB : m + B.length = b) (hB1 : 1 ≤ B.length) (hBs : SortedF (fG w0) B) :
    Calls Try.prog 79 #[.slice (some ⟨blk, off, none⟩) n cap, .int .i64 a, .int .i64 m, .int .i64 b, .func (.func 50) #[] #[]] W (SymPost k4 w0 w blk off P [x] B S) := by
  have HK4 := Lib.hid hk4
  obtain ⟨dk, hdl, hsw⟩ := hW
  have hds : dk.size = d0.size := by rw [len_list hdl, hL, hs0]
  have hdx : dk[a]! = x := at_list hdl hP
  have hdB : ∀ i (h : i < B.length), dk[m + i]! = B[i] := fun i h => at_app (P := P ++ [x]) (A := B) (S := S) (d := dk) (a := m) (by rw [hdl]; simp) (by simp; omega) i h
  have hbn : b ≤ n := by simp at hL; omega
  have HDB := Lib.hid hdB
  have HDX := Lib.hid hdx
  have HBS := Lib.hid hBs
  clear hdB hdx hBs
  have HDL := Lib.hid hdl
  have HDS := Lib.hid hds
  have HSW := Lib.hid hsw
  have HCM := Lib.hid hC
  have HLN := Lib.hid hL
  have HPL := Lib.hid hP
  have HS0 := Lib.hid hs0
  clear hk4 hC hdl hsw hds hL hP hs0
  have z1 : (m : Int) - (a : Int) = 1 := by omega
  go_enter Try.func79, Try.ntmps79
  go_wp2
  go_loopw [10, 11] (fun vi vj wr => ∃ i j : Nat, vi = .int .i64 i ∧ vj = .int .i64 j ∧ m ≤ i ∧ i ≤ j ∧ j ≤ b ∧ Hid (Lo (fG w0) x B (i - m) (j - m)) ∧ Hid (SWK (encG w0) k4 w blk off dk wr)) (fun vi vj _ => (intOf vj).toNat - (intOf vi).toNat)
  case atStart => exact ⟨m, b, rfl, rfl, Nat.le_refl _, by omega, Nat.le_refl _, Lib.hid (by rw [Nat.sub_self, show b - m = B.length by omega]; exact Lo.start _ _), HSW⟩
  case round =>
    clear HSW
    obtain ⟨i, j, rfl, rfl, hmi, hij, hjb, HLO, HSW⟩ := hrel
    by_cases hlt : i < j
    · have hltz : (i : Int) < (j : Int) := by omega
      obtain ⟨h, hh⟩ : ∃ h, h = (i + j) / 2 := ⟨_, rfl⟩
      have eh : ((i : Int) + (j : Int)) / 2 = (h : Int) := by omega
      have hih : i ≤ h := by omega
      have hhj : h < j := by omega
      have th : ((h : Nat) : Int).toNat = h := by omega
      have ph : (0 : Int) ≤ (h : Int) := by omega
      have bh : (h : Int) < (n : Int) := by omega
      have ta : ((a : Nat) : Int).toNat = a := by omega
      have pa : (0 : Int) ≤ (a : Int) := by omega
      have ba : (a : Int) < (n : Int) := by omega
      obtain ⟨xa, hxa⟩ : ∃ y, y = dk[h]! := ⟨_, rfl⟩
      obtain ⟨xb, hxb⟩ : ∃ y, y = dk[a]! := ⟨_, rfl⟩
      have hv : h - m < B.length := by omega
      have HXA := Lib.hid (show xa = B[h - m]'hv by rw [hxa, ← HDB.out (h - m) (by omega)]; congr 1; omega)
      have HXB := Lib.hid (hxb.trans HDX.out)
      have HQA := Lib.hid hxa.symm
      have HQB := Lib.hid hxb.symm
      clear hxa hxb hh
      by_cases hlv : cfG w0 xa xb < 0
      · have hd : decide (cfG w0 xa xb < 0) = true := decide_eq_true hlv
        have HN := Lib.hid (show Lo (fG w0) x B (h + 1 - m) (j - m) by
          have h2 := HLO.out.up HBS.out (v := h - m) (by omega) (by omega) (by have h5 := hlv; rw [HXA.out, HXB.out] at h5; exact h5)
          rwa [show h - m + 1 = h + 1 - m by omega] at h2)
        have l1 := HSW.out.ld R HDS.out Try.prog h (by rw [HDS.out, HS0.out]; omega)
        have l2 := HSW.out.ld R HDS.out Try.prog a (by rw [HDS.out, HS0.out]; omega)
        rw [HQA.out] at l1
        rw [HQB.out] at l2
        have hc := HSW.out.cmp HCM.out HDS.out xa xb
        have eg : ∀ args w, (callFunc 50 args).run Try.prog w = .ok (.enter 50 args) w := enters_of Try.func50 (by kernel_rfl) rfl
        have mixed : Try.prog.follows .mixedOrders = true := by kernel_rfl
        have u41 := run_underlying Try.underlying25
        have t3 := Try.underlying3; have a3 := fun w => Try.isAgg3 w; have z3 := fun w => Try.sizeOf3 w
        have t4 := Try.underlying4; have a4 := fun w => Try.isAgg4 w; have z4 := fun w => Try.sizeOf4 w
        have t41 := Try.underlying25; have a41 := fun w => Try.isAgg25 w; have z41 := fun w => Try.sizeOf25 w
        have t45 := Try.underlying73; have a45 := fun w => Try.isAgg73 w; have z45 := fun w => Try.sizeOf73 w
        have aE : ∀ w, (isAgg 45).run Try.prog w = .ok true w := fun w => Try.isAgg45 w
        have zE : ∀ w, (Go.sizeOf 45).run Try.prog w = .ok k4 w := fun w => by rw [HK4.out]; exact Try.sizeOf45 w
        have n1 : (encG w0 xa).length = k4 := R.hk _
        have n2 : (encG w0 xb).length = k4 := R.hk _
        have HX1 := Lib.hid n1
        clear n1 n2
        go_wp2_with fail
        generalize Try.prog = P at mixed u41 t3 a3 z3 t4 a4 z4 t41 a41 z41 t45 a45 z45 aE zE eg hc l1 l2 ⊢
        go_quiet_grown (first | (go_at_fn 50; refine Calls.grown_of (hc _ _)))
        have SU2 := Lib.hid (HSW.out.grown nq osq)
        clear mixed u41 t3 a3 z3 t4 a4 z4 t41 a41 z41 t45 a45 z45 aE zE eg hc l1 l2 HSW
        generalize grow (wr.drewN nq) osq = wu2 at SU2 ⊢
        clear nq osq
        go_wp2
        go_roundw
        case rel => exact ⟨h + 1, j, by go_num, rfl, by omega, by omega, hjb, HN, SU2⟩
        case measure => simp [intOf]; omega
      · have hd : decide (cfG w0 xa xb < 0) = false := decide_eq_false hlv
        have HN := Lib.hid (show Lo (fG w0) x B (i - m) (h - m) from HLO.out.down HBS.out (v := h - m) (by omega) (by omega) (by have h5 := hlv; rw [HXA.out, HXB.out] at h5; exact h5))
        have l1 := HSW.out.ld R HDS.out Try.prog h (by rw [HDS.out, HS0.out]; omega)
        have l2 := HSW.out.ld R HDS.out Try.prog a (by rw [HDS.out, HS0.out]; omega)
        rw [HQA.out] at l1
        rw [HQB.out] at l2
        have hc := HSW.out.cmp HCM.out HDS.out xa xb
        have eg : ∀ args w, (callFunc 50 args).run Try.prog w = .ok (.enter 50 args) w := enters_of Try.func50 (by kernel_rfl) rfl
        have mixed : Try.prog.follows .mixedOrders = true := by kernel_rfl
        have u41 := run_underlying Try.underlying25
        have t3 := Try.underlying3; have a3 := fun w => Try.isAgg3 w; have z3 := fun w => Try.sizeOf3 w
        have t4 := Try.underlying4; have a4 := fun w => Try.isAgg4 w; have z4 := fun w => Try.sizeOf4 w
        have t41 := Try.underlying25; have a41 := fun w => Try.isAgg25 w; have z41 := fun w => Try.sizeOf25 w
        have t45 := Try.underlying73; have a45 := fun w => Try.isAgg73 w; have z45 := fun w => Try.sizeOf73 w
        have aE : ∀ w, (isAgg 45).run Try.prog w = .ok true w := fun w => Try.isAgg45 w
        have zE : ∀ w, (Go.sizeOf 45).run Try.prog w = .ok k4 w := fun w => by rw [HK4.out]; exact Try.sizeOf45 w
        have n1 : (encG w0 xa).length = k4 := R.hk _
        have n2 : (encG w0 xb).length = k4 := R.hk _
        have HX1 := Lib.hid n1
        clear n1 n2
        go_wp2_with fail
        generalize Try.prog = P at mixed u41 t3 a3 z3 t4 a4 z4 t41 a41 z41 t45 a45 z45 aE zE eg hc l1 l2 ⊢
        go_quiet_grown (first | (go_at_fn 50; refine Calls.grown_of (hc _ _)))
        have SU2 := Lib.hid (HSW.out.grown nq osq)
        clear mixed u41 t3 a3 z3 t4 a4 z4 t41 a41 z41 t45 a45 z45 aE zE eg hc l1 l2 HSW
        generalize grow (wr.drewN nq) osq = wu2 at SU2 ⊢
        clear nq osq
        go_wp2
        go_roundw
        case rel => exact ⟨i, h, rfl, rfl, hmi, hih, by omega, HN, SU2⟩
        case measure => simp [intOf]; omega
    · have hltz : ¬ (i : Int) < (j : Int) := by omega
      obtain rfl : i = j := by omega
      obtain ⟨t, ht⟩ : ∃ t, t = i - m := ⟨_, rfl⟩
      have HT := Lib.hid ht
      have HS1 := Lib.hid (show SwSt k4 w0 w blk off (P ++ (B.take 0 ++ x :: (B.drop 0 ++ S))) wr from ⟨dk, by rw [HDL.out]; simp, HSW.out⟩)
      clear HSW ht
      go_wp2
      obtain ⟨wo, rfl⟩ : ∃ wo : World, wo = wr := ⟨_, rfl⟩
      go_loopw [13] (fun vk wr => ∃ k : Nat, vk = .int .i64 k ∧ a ≤ k ∧ k + 1 ≤ i ∧ Hid (SwSt k4 w0 w blk off (P ++ (B.take (k - a) ++ x :: (B.drop (k - a) ++ S))) wr)) (fun vk _ => i - (intOf vk).toNat)
      case atStart => exact ⟨a, rfl, Nat.le_refl _, by omega, by rw [Nat.sub_self]; exact HS1⟩
      case round =>
        clear HS1
        obtain ⟨k, rfl, hak, hki, HS⟩ := hrel
        by_cases hlk : k + 1 < i
        · have hlkz : (k : Int) < (i : Int) - 1 := by omega
          obtain ⟨dj, hdl2, hsw2⟩ := HS.out
          obtain ⟨hst, hi1, hi2⟩ := first_step hdl2 (show k - a < B.length by omega) HPL.out
          rw [show a + (k - a) = k by omega] at hst
          rw [show a + (k - a) = k by omega] at hi1
          rw [show a + (k - a) + 1 = k + 1 by omega] at hi2
          have hds2 : dj.size = d0.size := by
            rw [len_list hdl2, HS0.out, ← HLN.out]
            simp; omega
          have HST := Lib.hid hst
          clear hdl2 hst HS
          have SW2 := Lib.hid (hsw2.swapped R k (k + 1) hi1 hi2)
          have l1 := hsw2.ld1 R hds2 Try.prog k hi1
          have l2 := hsw2.ld1 R hds2 Try.prog (k + 1) hi2
          have s1 := hsw2.st1 R hds2 Try.prog k hi1 dj[(k + 1)]!
          have s2 := hsw2.st2 R hds2 Try.prog k (k + 1) hi1 hi2 dj[(k + 1)]! dj[k]!
          have n1 : (encG w0 dj[k]!).length = k4 := R.hk _
          have n2 : (encG w0 dj[(k + 1)]!).length = k4 := R.hk _
          generalize encG w0 dj[k]! = cI at SW2 l1 s2 n1
          generalize encG w0 dj[(k + 1)]! = cJ at SW2 l2 s1 s2 n2
          have ti : ((k : Int)).toNat = k := by omega
          have tj : (((k : Int) + 1)).toNat = (k + 1) := by omega
          have pi : (0 : Int) ≤ (k : Int) := by omega
          have pj : (0 : Int) ≤ ((k : Int) + 1) := by omega
          have bi : (k : Int) < (n : Int) := by omega
          have bj : ((k : Int) + 1) < (n : Int) := by omega
          have wi : IntKind.i64.wrap ((k : Int)) = (k : Int) := by rw [IntKind.wrap_i64]; omega
          have wj : IntKind.i64.wrap (((k : Int) + 1)) = ((k : Int) + 1) := by rw [IntKind.wrap_i64]; omega
          have mixed : Try.prog.follows .mixedOrders = true := by kernel_rfl
          have u41 := run_underlying Try.underlying25
          have t3 := Try.underlying3; have a3 := fun w => Try.isAgg3 w; have z3 := fun w => Try.sizeOf3 w
          have t4 := Try.underlying4; have a4 := fun w => Try.isAgg4 w; have z4 := fun w => Try.sizeOf4 w
          have t41 := Try.underlying25; have a41 := fun w => Try.isAgg25 w; have z41 := fun w => Try.sizeOf25 w
          have t45 := Try.underlying73; have a45 := fun w => Try.isAgg73 w; have z45 := fun w => Try.sizeOf73 w
          have aE : ∀ w, (isAgg 45).run Try.prog w = .ok true w := fun w => Try.isAgg45 w
          have zE : ∀ w, (Go.sizeOf 45).run Try.prog w = .ok k4 w := fun w => by rw [HK4.out]; exact Try.sizeOf45 w
          clear hsw2 hi1 hi2 hds2
          go_wp2_with fail
          generalize Try.prog = P at mixed u41 t3 a3 z3 t4 a4 z4 t41 a41 z41 t45 a45 z45 aE zE l1 l2 s1 s2 ⊢
          go_big_region_o
          clear mixed u41 t3 a3 z3 t4 a4 z4 t41 a41 z41 t45 a45 z45 aE zE l1 l2 s1 s2 ti tj pi pj bi bj wi wj n1 n2
          generalize (wr.drew.setCells blk (off + k * k4) cJ).setCells blk (off + (k + 1) * k4) cI = w2 at SW2 ⊢
          go_wp2
          go_roundw
          case rel => exact ⟨k + 1, by go_num, by omega, by omega, Lib.hid ⟨_, by rw [HST.out, show k + 1 - a = k - a + 1 by omega], SW2.out⟩⟩
          case measure => simp [intOf]; omega
        · have hlkz : ¬ (k : Int) < (i : Int) - 1 := by omega
          go_wp2
          go_end0
          refine ⟨rfl, B.take (k - a) ++ x :: B.drop (k - a), ?_, ?_⟩
          · have := HS.out
            simpa using this
          · have e : k - a = i - m := by omega
            rw [e]
            have hl := HLO.out
            have hp := put_first (f := fG w0) (x := x) (B1 := B.take (i - m)) (B2 := B.drop (i - m)) (by rw [List.take_append_drop]; exact HBS.out) hl.lo hl.hi
            rw [List.take_append_drop] at hp
            exact hp
set_option maxRecDepth 1000000 in
set_option maxHeartbeats 16000000 in
theorem sym_last (k4 : Nat) (hk4 : k4 = 4) (w0 w W : World) (blk off cap n a b m : Nat) (d0 : Array (GZ w0)) (R : RowK (encG w0) k4 w blk off d0) (hC : CmpLays Try.prog 50 #[] (encG w0) k4 (cfG w0) blk off d0.size w) (hs0 : d0.size = n) (hn : n ≤ 1000000)
    (P A S : List (GZ w0)) (y : GZ w0) (hW : SwSt k4 w0 w blk off (P ++ (A ++ (y :: S))) W) (hL : (P ++ (A ++ (y :: S))).length = n) (hP : P.length = a) (hA : a + A.length = m) (hB : m + 1 = b) (hA1 : 2 ≤ A.length) (hAs : SortedF (fG w0) A) :
    Calls Try.prog 79 #[.slice (some ⟨blk, off, none⟩) n cap, .int .i64 a, .int .i64 m, .int .i64 b, .func (.func 50) #[] #[]] W (SymPost k4 w0 w blk off P A [y] S) := by
  have HK4 := Lib.hid hk4
  obtain ⟨dk, hdl, hsw⟩ := hW
  have hds : dk.size = d0.size := by rw [len_list hdl, hL, hs0]
  have hdx : dk[m]! = y := at_list (A := P ++ A) (B := S) (by rw [hdl]; simp) (by simp; omega)
  have hdA : ∀ i (h : i < A.length), dk[a + i]! = A[i] := fun i h => at_app (P := P) (A := A) (S := y :: S) hdl hP i h
  have hbn : b ≤ n := by simp at hL; omega
  have HDA := Lib.hid hdA
  have HDX := Lib.hid hdx
  have HAS := Lib.hid hAs
  clear hdA hdx hAs
  have HDL := Lib.hid hdl
  have HDS := Lib.hid hds
  have HSW := Lib.hid hsw
  have HCM := Lib.hid hC
  have HLN := Lib.hid hL
  have HPL := Lib.hid hP
  have HS0 := Lib.hid hs0
  clear hk4 hC hdl hsw hds hL hP hs0
  have z1 : ¬ (m : Int) - (a : Int) = 1 := by omega
  have z2 : (b : Int) - (m : Int) = 1 := by omega
  have z3 : ((m : Int) - (a : Int) == 1) = false := by simp; omega
  go_enter Try.func79, Try.ntmps79
  go_wp2
  go_loopw [14, 15] (fun vi vj wr => ∃ i j : Nat, vi = .int .i64 i ∧ vj = .int .i64 j ∧ a ≤ i ∧ i ≤ j ∧ j ≤ m ∧ Hid (Hi (fG w0) y A (i - a) (j - a)) ∧ Hid (SWK (encG w0) k4 w blk off dk wr)) (fun vi vj _ => (intOf vj).toNat - (intOf vi).toNat)
  case atStart => exact ⟨a, m, rfl, rfl, Nat.le_refl _, by omega, Nat.le_refl _, Lib.hid (by rw [Nat.sub_self, show m - a = A.length by omega]; exact Hi.start _ _), HSW⟩
  case round =>
    clear HSW
    obtain ⟨i, j, rfl, rfl, hmi, hij, hjb, HLO, HSW⟩ := hrel
    by_cases hlt : i < j
    · have hltz : (i : Int) < (j : Int) := by omega
      obtain ⟨h, hh⟩ : ∃ h, h = (i + j) / 2 := ⟨_, rfl⟩
      have eh : ((i : Int) + (j : Int)) / 2 = (h : Int) := by omega
      have hih : i ≤ h := by omega
      have hhj : h < j := by omega
      have th : ((h : Nat) : Int).toNat = h := by omega
      have ph : (0 : Int) ≤ (h : Int) := by omega
      have bh : (h : Int) < (n : Int) := by omega
      have ta : ((m : Nat) : Int).toNat = m := by omega
      have pa : (0 : Int) ≤ (m : Int) := by omega
      have ba : (m : Int) < (n : Int) := by omega
      obtain ⟨xb, hxb⟩ : ∃ y, y = dk[h]! := ⟨_, rfl⟩
      obtain ⟨xa, hxa⟩ : ∃ y, y = dk[m]! := ⟨_, rfl⟩
      have hv : h - a < A.length := by omega
      have HXB := Lib.hid (show xb = A[h - a]'hv by rw [hxb, ← HDA.out (h - a) (by omega)]; congr 1; omega)
      have HXA := Lib.hid (hxa.trans HDX.out)
      have HQA := Lib.hid hxa.symm
      have HQB := Lib.hid hxb.symm
      clear hxa hxb hh
      by_cases hlv : cfG w0 xa xb < 0
      · have hd : decide (cfG w0 xa xb < 0) = true := decide_eq_true hlv
        have HN := Lib.hid (show Hi (fG w0) y A (i - a) (h - a) from HLO.out.down HAS.out (v := h - a) (by omega) (by omega) (by have h5 := hlv; rw [HXA.out, HXB.out] at h5; exact h5))
        have l1 := HSW.out.ld R HDS.out Try.prog m (by rw [HDS.out, HS0.out]; omega)
        have l2 := HSW.out.ld R HDS.out Try.prog h (by rw [HDS.out, HS0.out]; omega)
        rw [HQA.out] at l1
        rw [HQB.out] at l2
        have hc := HSW.out.cmp HCM.out HDS.out xa xb
        have eg : ∀ args w, (callFunc 50 args).run Try.prog w = .ok (.enter 50 args) w := enters_of Try.func50 (by kernel_rfl) rfl
        have mixed : Try.prog.follows .mixedOrders = true := by kernel_rfl
        have u41 := run_underlying Try.underlying25
        have t3 := Try.underlying3; have a3 := fun w => Try.isAgg3 w; have z3 := fun w => Try.sizeOf3 w
        have t4 := Try.underlying4; have a4 := fun w => Try.isAgg4 w; have z4 := fun w => Try.sizeOf4 w
        have t41 := Try.underlying25; have a41 := fun w => Try.isAgg25 w; have z41 := fun w => Try.sizeOf25 w
        have t45 := Try.underlying73; have a45 := fun w => Try.isAgg73 w; have z45 := fun w => Try.sizeOf73 w
        have aE : ∀ w, (isAgg 45).run Try.prog w = .ok true w := fun w => Try.isAgg45 w
        have zE : ∀ w, (Go.sizeOf 45).run Try.prog w = .ok k4 w := fun w => by rw [HK4.out]; exact Try.sizeOf45 w
        have n1 : (encG w0 xa).length = k4 := R.hk _
        have n2 : (encG w0 xb).length = k4 := R.hk _
        have HX1 := Lib.hid n1
        clear n1 n2
        go_wp2_with fail
        generalize Try.prog = P at mixed u41 t3 a3 z3 t4 a4 z4 t41 a41 z41 t45 a45 z45 aE zE eg hc l1 l2 ⊢
        go_quiet_grown (first | (go_at_fn 50; refine Calls.grown_of (hc _ _)))
        have SU2 := Lib.hid (HSW.out.grown nq osq)
        clear mixed u41 t3 a3 z3 t4 a4 z4 t41 a41 z41 t45 a45 z45 aE zE eg hc l1 l2 HSW
        generalize grow (wr.drewN nq) osq = wu2 at SU2 ⊢
        clear nq osq
        go_wp2
        go_roundw
        case rel => exact ⟨i, h, rfl, rfl, hmi, hih, by omega, HN, SU2⟩
        case measure => simp [intOf]; omega
      · have hd : decide (cfG w0 xa xb < 0) = false := decide_eq_false hlv
        have HN := Lib.hid (show Hi (fG w0) y A (h + 1 - a) (j - a) by
          have h2 := HLO.out.up HAS.out (v := h - a) (by omega) (by omega) (by have h5 := hlv; rw [HXA.out, HXB.out] at h5; exact h5)
          rwa [show h - a + 1 = h + 1 - a by omega] at h2)
        have l1 := HSW.out.ld R HDS.out Try.prog m (by rw [HDS.out, HS0.out]; omega)
        have l2 := HSW.out.ld R HDS.out Try.prog h (by rw [HDS.out, HS0.out]; omega)
        rw [HQA.out] at l1
        rw [HQB.out] at l2
        have hc := HSW.out.cmp HCM.out HDS.out xa xb
        have eg : ∀ args w, (callFunc 50 args).run Try.prog w = .ok (.enter 50 args) w := enters_of Try.func50 (by kernel_rfl) rfl
        have mixed : Try.prog.follows .mixedOrders = true := by kernel_rfl
        have u41 := run_underlying Try.underlying25
        have t3 := Try.underlying3; have a3 := fun w => Try.isAgg3 w; have z3 := fun w => Try.sizeOf3 w
        have t4 := Try.underlying4; have a4 := fun w => Try.isAgg4 w; have z4 := fun w => Try.sizeOf4 w
        have t41 := Try.underlying25; have a41 := fun w => Try.isAgg25 w; have z41 := fun w => Try.sizeOf25 w
        have t45 := Try.underlying73; have a45 := fun w => Try.isAgg73 w; have z45 := fun w => Try.sizeOf73 w
        have aE : ∀ w, (isAgg 45).run Try.prog w = .ok true w := fun w => Try.isAgg45 w
        have zE : ∀ w, (Go.sizeOf 45).run Try.prog w = .ok k4 w := fun w => by rw [HK4.out]; exact Try.sizeOf45 w
        have n1 : (encG w0 xa).length = k4 := R.hk _
        have n2 : (encG w0 xb).length = k4 := R.hk _
        have HX1 := Lib.hid n1
        clear n1 n2
        go_wp2_with fail
        generalize Try.prog = P at mixed u41 t3 a3 z3 t4 a4 z4 t41 a41 z41 t45 a45 z45 aE zE eg hc l1 l2 ⊢
        go_quiet_grown (first | (go_at_fn 50; refine Calls.grown_of (hc _ _)))
        have SU2 := Lib.hid (HSW.out.grown nq osq)
        clear mixed u41 t3 a3 z3 t4 a4 z4 t41 a41 z41 t45 a45 z45 aE zE eg hc l1 l2 HSW
        generalize grow (wr.drewN nq) osq = wu2 at SU2 ⊢
        clear nq osq
        go_wp2
        go_roundw
        case rel => exact ⟨h + 1, j, by go_num, rfl, by omega, by omega, hjb, HN, SU2⟩
        case measure => simp [intOf]; omega
    · have hltz : ¬ (i : Int) < (j : Int) := by omega
      obtain rfl : i = j := by omega
      have HS1 := Lib.hid (show SwSt k4 w0 w blk off (P ++ (A.take (m - a) ++ y :: (A.drop (m - a) ++ S))) wr from ⟨dk, by rw [HDL.out, List.take_of_length_le (by omega), List.drop_eq_nil_of_le (by omega)]; simp, HSW.out⟩)
      clear HSW
      go_wp2
      obtain ⟨wo, rfl⟩ : ∃ wo : World, wo = wr := ⟨_, rfl⟩
      go_loopw [17] (fun vk wr => ∃ k : Nat, vk = .int .i64 k ∧ i ≤ k ∧ k ≤ m ∧ Hid (SwSt k4 w0 w blk off (P ++ (A.take (k - a) ++ y :: (A.drop (k - a) ++ S))) wr)) (fun vk _ => (intOf vk).toNat)
      case atStart => exact ⟨m, rfl, hjb, Nat.le_refl _, HS1⟩
      case round =>
        clear HS1
        obtain ⟨k, rfl, hik, hkm, HS⟩ := hrel
        by_cases hlk : i < k
        · have hlkz : (i : Int) < (k : Int) := by omega
          obtain ⟨k1, rfl⟩ : ∃ k1, k = k1 + 1 := ⟨k - 1, by omega⟩
          obtain ⟨dj, hdl2, hsw2⟩ := HS.out
          obtain ⟨hst, hi1, hi2⟩ := last_step (r := k1 - a) (by rw [hdl2, show k1 + 1 - a = k1 - a + 1 by omega]) (show k1 - a < A.length by omega) HPL.out
          rw [show a + (k1 - a) + 1 = k1 + 1 by omega, show a + (k1 - a) = k1 by omega] at hst
          rw [show a + (k1 - a) = k1 by omega] at hi1
          rw [show a + (k1 - a) + 1 = k1 + 1 by omega] at hi2
          have hds2 : dj.size = d0.size := by
            rw [len_list hdl2, HS0.out, ← HLN.out]
            simp; omega
          have HST := Lib.hid hst
          have hi3 := hi1
          have hi1 := hi2
          have hi2 := hi3
          clear hdl2 hst HS hi3
          have SW2 := Lib.hid (hsw2.swapped R (k1 + 1) k1 hi1 hi2)
          have l1 := hsw2.ld1 R hds2 Try.prog (k1 + 1) hi1
          have l2 := hsw2.ld1 R hds2 Try.prog k1 hi2
          have s1 := hsw2.st1 R hds2 Try.prog (k1 + 1) hi1 dj[k1]!
          have s2 := hsw2.st2 R hds2 Try.prog (k1 + 1) k1 hi1 hi2 dj[k1]! dj[(k1 + 1)]!
          have n1 : (encG w0 dj[(k1 + 1)]!).length = k4 := R.hk _
          have n2 : (encG w0 dj[k1]!).length = k4 := R.hk _
          generalize encG w0 dj[(k1 + 1)]! = cI at SW2 l1 s2 n1
          generalize encG w0 dj[k1]! = cJ at SW2 l2 s1 s2 n2
          have ti : (((k1 : Int) + 1)).toNat = (k1 + 1) := by omega
          have tj : ((k1 : Int)).toNat = k1 := by omega
          have pi : (0 : Int) ≤ ((k1 : Int) + 1) := by omega
          have pj : (0 : Int) ≤ (k1 : Int) := by omega
          have bi : ((k1 : Int) + 1) < (n : Int) := by omega
          have bj : (k1 : Int) < (n : Int) := by omega
          have wi : IntKind.i64.wrap (((k1 : Int) + 1)) = ((k1 : Int) + 1) := by rw [IntKind.wrap_i64]; omega
          have wj : IntKind.i64.wrap ((k1 : Int)) = (k1 : Int) := by rw [IntKind.wrap_i64]; omega
          have mixed : Try.prog.follows .mixedOrders = true := by kernel_rfl
          have u41 := run_underlying Try.underlying25
          have t3 := Try.underlying3; have a3 := fun w => Try.isAgg3 w; have z3 := fun w => Try.sizeOf3 w
          have t4 := Try.underlying4; have a4 := fun w => Try.isAgg4 w; have z4 := fun w => Try.sizeOf4 w
          have t41 := Try.underlying25; have a41 := fun w => Try.isAgg25 w; have z41 := fun w => Try.sizeOf25 w
          have t45 := Try.underlying73; have a45 := fun w => Try.isAgg73 w; have z45 := fun w => Try.sizeOf73 w
          have aE : ∀ w, (isAgg 45).run Try.prog w = .ok true w := fun w => Try.isAgg45 w
          have zE : ∀ w, (Go.sizeOf 45).run Try.prog w = .ok k4 w := fun w => by rw [HK4.out]; exact Try.sizeOf45 w
          clear hsw2 hi1 hi2 hds2
          go_wp2_with fail
          generalize Try.prog = P at mixed u41 t3 a3 z3 t4 a4 z4 t41 a41 z41 t45 a45 z45 aE zE l1 l2 s1 s2 ⊢
          go_big_region_o
          clear mixed u41 t3 a3 z3 t4 a4 z4 t41 a41 z41 t45 a45 z45 aE zE l1 l2 s1 s2 ti tj pi pj bi bj wi wj n1 n2
          generalize (wr.drew.setCells blk (off + (k1 + 1) * k4) cJ).setCells blk (off + k1 * k4) cI = w2 at SW2 ⊢
          go_wp2
          go_roundw
          case rel => exact ⟨k1, by first | rfl | go_num | (congr 1; omega), by omega, by omega, Lib.hid ⟨_, HST.out, SW2.out⟩⟩
          case measure => simp [intOf]
        · have hlkz : ¬ (i : Int) < (k : Int) := by omega
          obtain rfl : i = k := by omega
          go_wp2
          go_end0
          refine ⟨rfl, A.take (i - a) ++ y :: A.drop (i - a), ?_, ?_⟩
          · have := HS.out
            simpa using this
          · have hl := HLO.out
            have hp := put_last (f := fG w0) (y := y) (A1 := A.take (i - a)) (A2 := A.drop (i - a)) (by rw [List.take_append_drop]; exact HAS.out) hl.lo hl.hi
            rw [List.take_append_drop] at hp
            exact hp
end Go.Proofs.Ytkfcpmmiimpkbaa
