/- An exchange of two stretches; a rotation. -/
import Derived.Test.YtkfcpmmiimpkbaaRI
import Derived.Test.YtkfcpmmiimpkbaaSA
import Derived.Shelf.SlSortCmp.KitK
import Derived.Shelf.RegionOpenPlain
namespace Go.Proofs.Ytkfcpmmiimpkbaa
open Go.RowKit Go.Shelf
open Go.Sort hiding Below
set_option linter.unusedSimpArgs false
set_option linter.unusedVariables false
/-- A world of the sort's, whose list this is. -/
def SwSt (k4 : Nat) (w0 w : World) (blk off : Nat) (L : List (GZ w0)) (W : World) : Prop := ∃ dk : Array (GZ w0), dk.toList = L ∧ SWK (encG w0) k4 w blk off dk W
theorem len_list {w0 : World} {dk : Array (GZ w0)} {L : List (GZ w0)} (h : dk.toList = L) : dk.size = L.length := by rw [← h]; simp
set_option maxRecDepth 1000000 in
set_option maxHeartbeats 8000000 in
theorem swapR_any (k4 : Nat) (hk4 : k4 = 4) (w0 w W : World) (blk off cap n a b m : Nat) (az bz mz : Int) (d0 : Array (GZ w0)) (R : RowK (encG w0) k4 w blk off d0) (hs0 : d0.size = n) (hn : n ≤ 1000000) (P X M Y S : List (GZ w0))
    (hW : SwSt k4 w0 w blk off (P ++ (X ++ (M ++ (Y ++ S)))) W) (hL : (P ++ (X ++ (M ++ (Y ++ S)))).length = n) (hP : P.length = a) (hX : X.length = m) (hY : Y.length = m) (hb : a + m + M.length = b) (haz : az = a) (hbz : bz = b) (hmz : mz = m) :
    Calls Try.prog 87 #[.slice (some ⟨blk, off, none⟩) n cap, .int .i64 az, .int .i64 bz, .int .i64 mz, .func (.func 50) #[] #[]] W fun e W' => e = .returned (.tuple #[]) ∧ SwSt k4 w0 w blk off (P ++ (Y ++ (M ++ (X ++ S)))) W' := by
  subst haz hbz hmz
  have HK4 := Lib.hid hk4
  clear hk4
  have HW := Lib.hid hW
  have hlen : a + m + M.length + m + S.length = n := by simp at hL; omega
  have HL := Lib.hid hL
  have HB := Lib.hid hb
  have hbn : b + m ≤ n := by omega
  have hab : a + m ≤ b := by omega
  have HPX := Lib.hid (And.intro hP (And.intro hX hY))
  have HS0 := Lib.hid hs0
  clear hW hL hlen hb hP hX hY hs0
  go_enter Try.func87, Try.ntmps87
  go_wp2
  go_loopw [10] (fun vi wr => ∃ k : Nat, vi = .int .i64 k ∧ k ≤ m ∧ Hid (SwSt k4 w0 w blk off (P ++ (Y.take k ++ (X.drop k ++ (M ++ (X.take k ++ (Y.drop k ++ S)))))) wr)) (fun vi _ => m - (intOf vi).toNat)
  case atStart => exact ⟨0, rfl, Nat.zero_le _, Lib.hid (by have := HW.out; simpa using this)⟩
  case round =>
    clear HW
    obtain ⟨k, rfl, hk, HS⟩ := hrel
    by_cases hlt : k < m
    · have hltz : (k : Int) < (m : Int) := by omega
      obtain ⟨dk, hdl, hsw⟩ := HS.out
      obtain ⟨hst, hi1, hi2⟩ := range_step hdl HPX.out.2.1 HPX.out.2.2 hlt HPX.out.1 HB.out
      have hds : dk.size = d0.size := by
        rw [len_list hdl, HS0.out, ← HL.out]
        have h1 := HPX.out.2.1
        have h2 := HPX.out.2.2
        simp [h1, h2]; omega
      obtain ⟨i, hi⟩ : ∃ i, i = a + k := ⟨_, rfl⟩
      obtain ⟨j, hj⟩ : ∃ j, j = b + k := ⟨_, rfl⟩
      rw [← hi] at hst hi1
      rw [← hj] at hst hi2
      have SW2 := Lib.hid (hsw.swapped R i j hi1 hi2)
      have l1 := hsw.ld1 R hds Try.prog i hi1
      have l2 := hsw.ld1 R hds Try.prog j hi2
      have s1 := hsw.st1 R hds Try.prog i hi1 dk[j]!
      have s2 := hsw.st2 R hds Try.prog i j hi1 hi2 dk[j]! dk[i]!
      have n1 : (encG w0 dk[i]!).length = k4 := R.hk _
      have n2 : (encG w0 dk[j]!).length = k4 := R.hk _
      generalize encG w0 dk[i]! = cI at SW2 l1 s2 n1
      generalize encG w0 dk[j]! = cJ at SW2 l2 s1 s2 n2
      have wi : IntKind.i64.wrap ((a : Int) + (k : Int)) = (i : Int) := by rw [IntKind.wrap_i64]; omega
      have wj : IntKind.i64.wrap ((b : Int) + (k : Int)) = (j : Int) := by rw [IntKind.wrap_i64]; omega
      have ti : ((i : Nat) : Int).toNat = i := by omega
      have tj : ((j : Nat) : Int).toNat = j := by omega
      have pi : (0 : Int) ≤ (i : Int) := by omega
      have pj : (0 : Int) ≤ (j : Int) := by omega
      have bi : (i : Int) < (n : Int) := by omega
      have bj : (j : Int) < (n : Int) := by omega
      have HST := Lib.hid hst
      have HIJ := Lib.hid (And.intro hi hj)
      clear hdl hsw hst hi1 hi2 hds hi hj HS
      go_wp2_with fail
      have mixed : Try.prog.follows .mixedOrders = true := by kernel_rfl
      have u41 := run_underlying Try.underlying25
      have t3 := Try.underlying3; have a3 := fun w => Try.isAgg3 w; have z3 := fun w => Try.sizeOf3 w
      have t41 := Try.underlying25; have a41 := fun w => Try.isAgg25 w; have z41 := fun w => Try.sizeOf25 w
      have aE : ∀ w, (isAgg 45).run Try.prog w = .ok true w := fun w => Try.isAgg45 w
      have zE : ∀ w, (Go.sizeOf 45).run Try.prog w = .ok k4 w := fun w => by rw [HK4.out]; exact Try.sizeOf45 w
      generalize Try.prog = P at mixed u41 t3 a3 z3 t41 a41 z41 aE zE l1 l2 s1 s2 ⊢
      go_big_region_o
      clear mixed u41 t3 a3 z3 t41 a41 z41 aE zE
      clear l1 l2 s1 s2 wi wj ti tj
      generalize (wr.drew.setCells blk (off + i * k4) cJ).setCells blk (off + j * k4) cI = w2 at SW2 ⊢
      go_wp2
      go_roundw
      case rel => exact ⟨k + 1, by go_num, by omega, Lib.hid ⟨_, HST.out, SW2.out⟩⟩
      case measure => simp [intOf]; omega
    · have hltz : ¬ (k : Int) < (m : Int) := by omega
      obtain rfl : m = k := by omega
      go_wp2
      go_end0
      refine ⟨rfl, ?_⟩
      have h1 := HPX.out.2.1
      have h2 := HPX.out.2.2
      have := HS.out
      rw [List.take_of_length_le (by omega), List.take_of_length_le (by omega), List.drop_eq_nil_of_le (by omega), List.drop_eq_nil_of_le (by omega)] at this
      simpa using this
/-- What is yet to be rotated: T is what it all comes to. -/
def RotSt (k4 : Nat) (w0 w : World) (blk off m : Nat) (T : List (GZ w0)) (i j : Nat) (W : World) : Prop :=
  ∃ P X Y S : List (GZ w0), P.length + i = m ∧ X.length = i ∧ Y.length = j ∧ P ++ (Y ++ (X ++ S)) = T ∧ SwSt k4 w0 w blk off (P ++ (X ++ (Y ++ S))) W
set_option maxRecDepth 1000000 in
set_option maxHeartbeats 8000000 in
theorem rotate_any (k4 : Nat) (hk4 : k4 = 4) (w0 w W : World) (blk off cap n a b m : Nat) (az bz mz : Int) (d0 : Array (GZ w0)) (R : RowK (encG w0) k4 w blk off d0) (hs0 : d0.size = n) (hn : n ≤ 1000000) (P X Y S : List (GZ w0))
    (hW : SwSt k4 w0 w blk off (P ++ (X ++ (Y ++ S))) W) (hL : (P ++ (X ++ (Y ++ S))).length = n) (hP : P.length = a) (hX : a + X.length = m) (hY : m + Y.length = b) (hX1 : 1 ≤ X.length) (hY1 : 1 ≤ Y.length) (haz : az = a) (hbz : bz = b) (hmz : mz = m) :
    Calls Try.prog 84 #[.slice (some ⟨blk, off, none⟩) n cap, .int .i64 az, .int .i64 mz, .int .i64 bz, .func (.func 50) #[] #[]] W fun e W' => e = .returned (.tuple #[]) ∧ SwSt k4 w0 w blk off (P ++ (Y ++ (X ++ S))) W' := by
  subst haz hbz hmz
  have HR := Lib.hid (show RotSt k4 w0 w blk off m (P ++ (Y ++ (X ++ S))) (m - a) (b - m) W from ⟨P, X, Y, S, by omega, by omega, by omega, rfl, hW⟩)
  have hlen : (P ++ (Y ++ (X ++ S))).length = n := by rw [← hL]; simp; omega
  obtain ⟨T, hT⟩ : ∃ T, T = P ++ (Y ++ (X ++ S)) := ⟨_, rfl⟩
  rw [← hT] at HR hlen ⊢
  have HL := Lib.hid hlen
  have HS0 := Lib.hid hs0
  have ham : a < m := by omega
  have hmb : m < b := by omega
  have hbn : b ≤ n := by simp at hL; omega
  clear hW hL hP hX hY hX1 hY1 hT hlen hs0
  go_enter Try.func84, Try.ntmps84
  go_wp2
  go_loopw [10, 11] (fun vi vj wr => ∃ i j : Nat, vi = .int .i64 i ∧ vj = .int .i64 j ∧ 1 ≤ i ∧ 1 ≤ j ∧ i ≤ m ∧ m + j ≤ n ∧ Hid (RotSt k4 w0 w blk off m T i j wr)) (fun vi vj _ => (intOf vi).toNat + (intOf vj).toNat)
  case atStart => exact ⟨m - a, b - m, by go_num, by go_num, by omega, by omega, by omega, by omega, HR⟩
  case round =>
    clear HR
    obtain ⟨i, j, rfl, rfl, hi1, hj1, him, hjn, HR⟩ := hrel
    rcases Nat.lt_trichotomy i j with hij | hij | hij
    · have e1 : ((i : Int) != (j : Int)) = true := by simp; omega
      have e2 : decide ((j : Int) < (i : Int)) = false := by simp; omega
      have e3 : ¬ ((j : Int) < (i : Int)) := by omega
      have e4 : ¬ ((i : Int) = (j : Int)) := by omega
      obtain ⟨P, X, Y, S, h1, h2, h3, h4, h5⟩ := HR.out
      have hY : Y = Y.take (j - i) ++ Y.drop (j - i) := (List.take_append_drop _ _).symm
      have h6 : SwSt k4 w0 w blk off (P ++ (X ++ (Y.take (j - i) ++ (Y.drop (j - i) ++ S)))) wr := by
        have e : P ++ (X ++ (Y.take (j - i) ++ (Y.drop (j - i) ++ S))) = P ++ (X ++ (Y ++ S)) := by
          rw [← List.append_assoc (Y.take _), ← hY]
        rw [e]; exact h5
      have hln : (P ++ (X ++ (Y.take (j - i) ++ (Y.drop (j - i) ++ S)))).length = n := by
        rw [← HL.out, ← h4]; simp; omega
      have H := Lib.hid (swapR_any k4 hk4 w0 w wr blk off cap n (m - i) (m + j - i) i ((m : Int) - i) ((m : Int) + j - i) i d0 R HS0.out hn P X (Y.take (j - i)) (Y.drop (j - i)) S h6 hln (by omega) h2 (by simp; omega) (by simp; omega) (by omega) (by omega) rfl)
      have HN := Lib.hid (show ∀ W', SwSt k4 w0 w blk off (P ++ (Y.drop (j - i) ++ (Y.take (j - i) ++ (X ++ S)))) W' → RotSt k4 w0 w blk off m T i (j - i) W' from fun W' h =>
        ⟨P, Y.drop (j - i), Y.take (j - i), X ++ S, h1, by simp; omega, by simp; omega, by
          rw [← h4, ← List.append_assoc (Y.take _), ← hY], h⟩)
      clear h1 h2 h3 h4 h5 h6 hY hln HR
      go_wp2_with (go_at_call 87; refine H.out.mono ?_; rintro e w' ⟨rfl, hq⟩)
      have HQ := Lib.hid (HN.out _ hq)
      clear hq H HN
      go_wp2
      go_roundw
      case rel => exact ⟨i, j - i, rfl, by go_num, hi1, by omega, him, by omega, HQ⟩
      case measure => simp [intOf]; omega
    · subst hij
      have e1 : ((i : Int) != (i : Int)) = false := by simp
      obtain ⟨P, X, Y, S, h1, h2, h3, h4, h5⟩ := HR.out
      have hln : (P ++ (X ++ ([] ++ (Y ++ S)))).length = n := by
        rw [← HL.out, ← h4]; simp; omega
      have H := Lib.hid (swapR_any k4 hk4 w0 w wr blk off cap n (m - i) m i ((m : Int) - i) m i d0 R HS0.out hn P X [] Y S h5 hln (by omega) h2 h3 (by simp; omega) (by omega) rfl rfl)
      have HN := Lib.hid (show ∀ W', SwSt k4 w0 w blk off (P ++ (Y ++ ([] ++ (X ++ S)))) W' → SwSt k4 w0 w blk off T W' from fun W' h => by rw [← h4]; exact h)
      clear h1 h2 h3 h4 h5 hln HR
      go_wp2_with (go_at_call 87; refine H.out.mono ?_; rintro e w' ⟨rfl, hq⟩)
      have HQ := Lib.hid (HN.out _ hq)
      clear hq H HN
      go_wp2
      go_end0
      exact ⟨rfl, HQ.out⟩
    · have e1 : ((i : Int) != (j : Int)) = true := by simp; omega
      have e2 : decide ((j : Int) < (i : Int)) = true := by simp; omega
      have e3 : ((j : Int) < (i : Int)) := by omega
      have e4 : ¬ ((i : Int) = (j : Int)) := by omega
      obtain ⟨P, X, Y, S, h1, h2, h3, h4, h5⟩ := HR.out
      have hX : X = X.take j ++ X.drop j := (List.take_append_drop _ _).symm
      have h6 : SwSt k4 w0 w blk off (P ++ (X.take j ++ (X.drop j ++ (Y ++ S)))) wr := by
        have e : P ++ (X.take j ++ (X.drop j ++ (Y ++ S))) = P ++ (X ++ (Y ++ S)) := by
          rw [← List.append_assoc (X.take _), ← hX]
        rw [e]; exact h5
      have hln : (P ++ (X.take j ++ (X.drop j ++ (Y ++ S)))).length = n := by
        rw [← HL.out, ← h4]; simp; omega
      have H := Lib.hid (swapR_any k4 hk4 w0 w wr blk off cap n (m - i) m j ((m : Int) - i) m j d0 R HS0.out hn P (X.take j) (X.drop j) Y S h6 hln (by omega) (by simp; omega) h3 (by simp; omega) (by omega) rfl rfl)
      have HN := Lib.hid (show ∀ W', SwSt k4 w0 w blk off (P ++ (Y ++ (X.drop j ++ (X.take j ++ S)))) W' → RotSt k4 w0 w blk off m T (i - j) j W' from fun W' h =>
        ⟨P ++ Y, X.drop j, X.take j, S, by simp; omega, by simp; omega, by simp; omega, by
          rw [← h4, List.append_assoc, ← List.append_assoc (X.take _), ← hX], by rw [List.append_assoc]; exact h⟩)
      clear h1 h2 h3 h4 h5 h6 hX hln HR
      go_wp2_with (go_at_call 87; refine H.out.mono ?_; rintro e w' ⟨rfl, hq⟩)
      have HQ := Lib.hid (HN.out _ hq)
      clear hq H HN
      go_wp2
      go_roundw
      case rel => exact ⟨i - j, j, by go_num, rfl, by omega, hj1, by omega, hjn, HQ⟩
      case measure => simp [intOf]; omega
end Go.Proofs.Ytkfcpmmiimpkbaa
