/- An exchange of two stretches; a rotation. symMergeCmpFunc: the mathematics of its search. Stretches in order, of one length each: the mathematics of stableCmpFunc. symMergeCmpFunc: one row goes into a stretch. -/
import Derived.Test.YtmmeekmiildliaaGreatDoorRI
import Derived.Test.YtmmeekmiildliaaGreatDoorSA
import Derived.Shelf.SlSortCmp.KitK
import Derived.Shelf.RegionOpenPlain
import Derived.Shelf.SlSortCmp.QuietGrown
namespace Go.Proofs.YtmmeekmiildliaaGreatDoor
open Go.RowKit Go.Shelf
open Go.Sort hiding Below
set_option linter.unusedSimpArgs false
set_option linter.unusedVariables false
/-- A world of the sort's, whose list this is. -/
def SwSt (k4 : Nat) (w0 w : World) (blk off : Nat) (L : List (GZ w0)) (W : World) : Prop := ∃ dk : Array (GZ w0), dk.toList = L ∧ SWK (encG w0) k4 w blk off dk W
theorem len_list {w0 : World} {dk : Array (GZ w0)} {L : List (GZ w0)} (h : dk.toList = L) : dk.size = L.length := by rw [← h]; simp
set_option maxRecDepth 1000000 in
set_option maxHeartbeats 8000000 in
theorem swapR_any (k4 : Nat) (hk4 : k4 = 4) (w0 w W : World) (blk off cap n a b m : Nat) (az bz mz : Int) (d0 : Array (GZ w0)) (R : RowK (encG w0) k4 w blk off d0) (hs0 : d0.size = n) (hn : n ≤ 1000000) (P X M Y S : List (GZ w0))
    (hW : SwSt k4 w0 w blk off (P ++ (X ++ (M ++ (Y ++ S)))) W) (hL : (P ++ (X ++ (M ++ (Y ++ S)))).length = n) (hP : P.length = a) (hX : X.length = m) (hY : Y.length = m) (hb : a + m + M.length = b) (haz : az = a) (hbz : bz = b) (hmz : mz = m) :
    Calls Tryz.prog 146 #[.slice (some ⟨blk, off, none⟩) n cap, .int .i64 az, .int .i64 bz, .int .i64 mz, .func (.func 41) #[] #[]] W fun e W' => e = .returned (.tuple #[]) ∧ SwSt k4 w0 w blk off (P ++ (Y ++ (M ++ (X ++ S)))) W' := by
  subst haz hbz hmz
  have HK4 := Lib.hid hk4
  clear hk4
  have HW := Lib.hid hW
  have hlen : a + m + M.length + m + S.length = n := by simp at hL; omega
  have HL := Lib.hid hL
  have HB := Lib.hid hb
  have hbn : b + m ≤ n := by omega
  have hab : a + m ≤ b := by omega
  have HPX := Lib.hid (And.intro hP (And.intro hX hY))
  have HS0 := Lib.hid hs0
  clear hW hL hlen hb hP hX hY hs0
  go_enter Tryz.func146, Tryz.ntmps146
  go_wp2
  go_loopw [10] (fun vi wr => ∃ k : Nat, vi = .int .i64 k ∧ k ≤ m ∧ Hid (SwSt k4 w0 w blk off (P ++ (Y.take k ++ (X.drop k ++ (M ++ (X.take k ++ (Y.drop k ++ S)))))) wr)) (fun vi _ => m - (intOf vi).toNat)
  case atStart => exact ⟨0, rfl, Nat.zero_le _, Lib.hid (by have := HW.out; simpa using this)⟩
  case round =>
    clear HW
    obtain ⟨k, rfl, hk, HS⟩ := hrel
    by_cases hlt : k < m
    · have hltz : (k : Int) < (m : Int) := by omega
      obtain ⟨dk, hdl, hsw⟩ := HS.out
      obtain ⟨hst, hi1, hi2⟩ := range_step hdl HPX.out.2.1 HPX.out.2.2 hlt HPX.out.1 HB.out
      have hds : dk.size = d0.size := by
        rw [len_list hdl, HS0.out, ← HL.out]
        have h1 := HPX.out.2.1
        have h2 := HPX.out.2.2
        simp [h1, h2]; omega
      obtain ⟨i, hi⟩ : ∃ i, i = a + k := ⟨_, rfl⟩
      obtain ⟨j, hj⟩ : ∃ j, j = b + k := ⟨_, rfl⟩
      rw [← hi] at hst hi1
      rw [← hj] at hst hi2
      have SW2 := Lib.hid (hsw.swapped R i j hi1 hi2)
      have l1 := hsw.ld1 R hds Tryz.prog i hi1
      have l2 := hsw.ld1 R hds Tryz.prog j hi2
      have s1 := hsw.st1 R hds Tryz.prog i hi1 dk[j]!
      have s2 := hsw.st2 R hds Tryz.prog i j hi1 hi2 dk[j]! dk[i]!
      have n1 : (encG w0 dk[i]!).length = k4 := R.hk _
      have n2 : (encG w0 dk[j]!).length = k4 := R.hk _
      generalize encG w0 dk[i]! = cI at SW2 l1 s2 n1
      generalize encG w0 dk[j]! = cJ at SW2 l2 s1 s2 n2
      have wi : IntKind.i64.wrap ((a : Int) + (k : Int)) = (i : Int) := by rw [IntKind.wrap_i64]; omega
      have wj : IntKind.i64.wrap ((b : Int) + (k : Int)) = (j : Int) := by rw [IntKind.wrap_i64]; omega
      have ti : ((i : Nat) : Int).toNat = i := by omega
      have tj : ((j : Nat) : Int).toNat = j := by omega
      have pi : (0 : Int) ≤ (i : Int) := by omega
      have pj : (0 : Int) ≤ (j : Int) := by omega
      have bi : (i : Int) < (n : Int) := by omega
      have bj : (j : Int) < (n : Int) := by omega
      have HST := Lib.hid hst
      have HIJ := Lib.hid (And.intro hi hj)
      clear hdl hsw hst hi1 hi2 hds hi hj HS
      go_wp2_with fail
      have mixed : Tryz.prog.follows .mixedOrders = true := by kernel_rfl
      have u41 := run_underlying Tryz.underlying46
      have t3 := Tryz.underlying3; have a3 := fun w => Tryz.isAgg3 w; have z3 := fun w => Tryz.sizeOf3 w
      have t41 := Tryz.underlying46; have a41 := fun w => Tryz.isAgg46 w; have z41 := fun w => Tryz.sizeOf46 w
      have aE : ∀ w, (isAgg 59).run Tryz.prog w = .ok true w := fun w => Tryz.isAgg59 w
      have zE : ∀ w, (Go.sizeOf 59).run Tryz.prog w = .ok k4 w := fun w => by rw [HK4.out]; exact Tryz.sizeOf59 w
      generalize Tryz.prog = P at mixed u41 t3 a3 z3 t41 a41 z41 aE zE l1 l2 s1 s2 ⊢
      go_big_region_o
      clear mixed u41 t3 a3 z3 t41 a41 z41 aE zE
      clear l1 l2 s1 s2 wi wj ti tj
      generalize (wr.drew.setCells blk (off + i * k4) cJ).setCells blk (off + j * k4) cI = w2 at SW2 ⊢
      go_wp2
      go_roundw
      case rel => exact ⟨k + 1, by go_num, by omega, Lib.hid ⟨_, HST.out, SW2.out⟩⟩
      case measure => simp [intOf]; omega
    · have hltz : ¬ (k : Int) < (m : Int) := by omega
      obtain rfl : m = k := by omega
      go_wp2
      go_end0
      refine ⟨rfl, ?_⟩
      have h1 := HPX.out.2.1
      have h2 := HPX.out.2.2
      have := HS.out
      rw [List.take_of_length_le (by omega), List.take_of_length_le (by omega), List.drop_eq_nil_of_le (by omega), List.drop_eq_nil_of_le (by omega)] at this
      simpa using this
/-- What is yet to be rotated: T is what it all comes to. -/
def RotSt (k4 : Nat) (w0 w : World) (blk off m : Nat) (T : List (GZ w0)) (i j : Nat) (W : World) : Prop :=
  ∃ P X Y S : List (GZ w0), P.length + i = m ∧ X.length = i ∧ Y.length = j ∧ P ++ (Y ++ (X ++ S)) = T ∧ SwSt k4 w0 w blk off (P ++ (X ++ (Y ++ S))) W
set_option maxRecDepth 1000000 in
set_option maxHeartbeats 8000000 in
theorem rotate_any (k4 : Nat) (hk4 : k4 = 4) (w0 w W : World) (blk off cap n a b m : Nat) (az bz mz : Int) (d0 : Array (GZ w0)) (R : RowK (encG w0) k4 w blk off d0) (hs0 : d0.size = n) (hn : n ≤ 1000000) (P X Y S : List (GZ w0))
    (hW : SwSt k4 w0 w blk off (P ++ (X ++ (Y ++ S))) W) (hL : (P ++ (X ++ (Y ++ S))).length = n) (hP : P.length = a) (hX : a + X.length = m) (hY : m + Y.length = b) (hX1 : 1 ≤ X.length) (hY1 : 1 ≤ Y.length) (haz : az = a) (hbz : bz = b) (hmz : mz = m) :
    Calls Tryz.prog 132 #[.slice (some ⟨blk, off, none⟩) n cap, .int .i64 az, .int .i64 mz, .int .i64 bz, .func (.func 41) #[] #[]] W fun e W' => e = .returned (.tuple #[]) ∧ SwSt k4 w0 w blk off (P ++ (Y ++ (X ++ S))) W' := by
  subst haz hbz hmz
  have HR := Lib.hid (show RotSt k4 w0 w blk off m (P ++ (Y ++ (X ++ S))) (m - a) (b - m) W from ⟨P, X, Y, S, by omega, by omega, by omega, rfl, hW⟩)
  have hlen : (P ++ (Y ++ (X ++ S))).length = n := by rw [← hL]; simp; omega
  obtain ⟨T, hT⟩ : ∃ T, T = P ++ (Y ++ (X ++ S)) := ⟨_, rfl⟩
  rw [← hT] at HR hlen ⊢
  have HL := Lib.hid hlen
  have HS0 := Lib.hid hs0
  have ham : a < m := by omega
  have hmb : m < b := by omega
  have hbn : b ≤ n := by simp at hL; omega
  clear hW hL hP hX hY hX1 hY1 hT hlen hs0
  go_enter Tryz.func132, Tryz.ntmps132
  go_wp2
  go_loopw [10, 11] (fun vi vj wr => ∃ i j : Nat, vi = .int .i64 i ∧ vj = .int .i64 j ∧ 1 ≤ i ∧ 1 ≤ j ∧ i ≤ m ∧ m + j ≤ n ∧ Hid (RotSt k4 w0 w blk off m T i j wr)) (fun vi vj _ => (intOf vi).toNat + (intOf vj).toNat)
  case atStart => exact ⟨m - a, b - m, by go_num, by go_num, by omega, by omega, by omega, by omega, HR⟩
  case round =>
    clear HR
    obtain ⟨i, j, rfl, rfl, hi1, hj1, him, hjn, HR⟩ := hrel
    rcases Nat.lt_trichotomy i j with hij | hij | hij
    · have e1 : ((i : Int) != (j : Int)) = true := by simp; omega
      have e2 : decide ((j : Int) < (i : Int)) = false := by simp; omega
      have e3 : ¬ ((j : Int) < (i : Int)) := by omega
      have e4 : ¬ ((i : Int) = (j : Int)) := by omega
      obtain ⟨P, X, Y, S, h1, h2, h3, h4, h5⟩ := HR.out
      have hY : Y = Y.take (j - i) ++ Y.drop (j - i) := (List.take_append_drop _ _).symm
      have h6 : SwSt k4 w0 w blk off (P ++ (X ++ (Y.take (j - i) ++ (Y.drop (j - i) ++ S)))) wr := by
        have e : P ++ (X ++ (Y.take (j - i) ++ (Y.drop (j - i) ++ S))) = P ++ (X ++ (Y ++ S)) := by
          rw [← List.append_assoc (Y.take _), ← hY]
        rw [e]; exact h5
      have hln : (P ++ (X ++ (Y.take (j - i) ++ (Y.drop (j - i) ++ S)))).length = n := by
        rw [← HL.out, ← h4]; simp; omega
      have H := Lib.hid (swapR_any k4 hk4 w0 w wr blk off cap n (m - i) (m + j - i) i ((m : Int) - i) ((m : Int) + j - i) i d0 R HS0.out hn P X (Y.take (j - i)) (Y.drop (j - i)) S h6 hln (by omega) h2 (by simp; omega) (by simp; omega) (by omega) (by omega) rfl)
      have HN := Lib.hid (show ∀ W', SwSt k4 w0 w blk off (P ++ (Y.drop (j - i) ++ (Y.take (j - i) ++ (X ++ S)))) W' → RotSt k4 w0 w blk off m T i (j - i) W' from fun W' h =>
        ⟨P, Y.drop (j - i), Y.take (j - i), X ++ S, h1, by simp; omega, by simp; omega, by
          rw [← h4, ← List.append_assoc (Y.take _), ← hY], h⟩)
      clear h1 h2 h3 h4 h5 h6 hY hln HR
      go_wp2_with (go_at_call 146; refine H.out.mono ?_; rintro e w' ⟨rfl, hq⟩)
      have HQ := Lib.hid (HN.out _ hq)
      clear hq H HN
      go_wp2
      go_roundw
      case rel => exact ⟨i, j - i, rfl, by go_num, hi1, by omega, him, by omega, HQ⟩
      case measure => simp [intOf]; omega
    · subst hij
      have e1 : ((i : Int) != (i : Int)) = false := by simp
      obtain ⟨P, X, Y, S, h1, h2, h3, h4, h5⟩ := HR.out
      have hln : (P ++ (X ++ ([] ++ (Y ++ S)))).length = n := by
        rw [← HL.out, ← h4]; simp; omega
      have H := Lib.hid (swapR_any k4 hk4 w0 w wr blk off cap n (m - i) m i ((m : Int) - i) m i d0 R HS0.out hn P X [] Y S h5 hln (by omega) h2 h3 (by simp; omega) (by omega) rfl rfl)
      have HN := Lib.hid (show ∀ W', SwSt k4 w0 w blk off (P ++ (Y ++ ([] ++ (X ++ S)))) W' → SwSt k4 w0 w blk off T W' from fun W' h => by rw [← h4]; exact h)
      clear h1 h2 h3 h4 h5 hln HR
      go_wp2_with (go_at_call 146; refine H.out.mono ?_; rintro e w' ⟨rfl, hq⟩)
      have HQ := Lib.hid (HN.out _ hq)
      clear hq H HN
      go_wp2
      go_end0
      exact ⟨rfl, HQ.out⟩
    · have e1 : ((i : Int) != (j : Int)) = true := by simp; omega
      have e2 : decide ((j : Int) < (i : Int)) = true := by simp; omega
      have e3 : ((j : Int) < (i : Int)) := by omega
      have e4 : ¬ ((i : Int) = (j : Int)) := by omega
      obtain ⟨P, X, Y, S, h1, h2, h3, h4, h5⟩ := HR.out
      have hX : X = X.take j ++ X.drop j := (List.take_append_drop _ _).symm
      have h6 : SwSt k4 w0 w blk off (P ++ (X.take j ++ (X.drop j ++ (Y ++ S)))) wr := by
        have e : P ++ (X.take j ++ (X.drop j ++ (Y ++ S))) = P ++ (X ++ (Y ++ S)) := by
          rw [← List.append_assoc (X.take _), ← hX]
        rw [e]; exact h5
      have hln : (P ++ (X.take j ++ (X.drop j ++ (Y ++ S)))).length = n := by
        rw [← HL.out, ← h4]; simp; omega
      have H := Lib.hid (swapR_any k4 hk4 w0 w wr blk off cap n (m - i) m j ((m : Int) - i) m j d0 R HS0.out hn P (X.take j) (X.drop j) Y S h6 hln (by omega) (by simp; omega) h3 (by simp; omega) (by omega) rfl rfl)
      have HN := Lib.hid (show ∀ W', SwSt k4 w0 w blk off (P ++ (Y ++ (X.drop j ++ (X.take j ++ S)))) W' → RotSt k4 w0 w blk off m T (i - j) j W' from fun W' h =>
        ⟨P ++ Y, X.drop j, X.take j, S, by simp; omega, by simp; omega, by simp; omega, by
          rw [← h4, List.append_assoc, ← List.append_assoc (X.take _), ← hX], by rw [List.append_assoc]; exact h⟩)
      clear h1 h2 h3 h4 h5 h6 hX hln HR
      go_wp2_with (go_at_call 146; refine H.out.mono ?_; rintro e w' ⟨rfl, hq⟩)
      have HQ := Lib.hid (HN.out _ hq)
      clear hq H HN
      go_wp2
      go_roundw
      case rel => exact ⟨i - j, j, by go_num, rfl, by omega, hj1, by omega, hjn, HQ⟩
      case measure => simp [intOf]; omega
end Go.Proofs.YtmmeekmiildliaaGreatDoor
namespace Go.Proofs.YtmmeekmiildliaaGreatDoor
open Go.RowKit
set_option linter.unusedSimpArgs false
set_option linter.unusedVariables false
section
variable {α : Type} {f : α → RV}
theorem SortedF.le {L : List α} (h : SortedF f L) {i j : Nat} (hj : j < L.length) (hij : i ≤ j) : cmpV (f (L[i]'(by omega))) (f L[j]) ≤ 0 := by
  rcases Nat.lt_or_eq_of_le hij with h1 | rfl
  · exact List.pairwise_iff_getElem.1 h i j (by omega) hj h1
  · rw [cmpV_self]; exact Int.le_refl _
theorem mem_take' {L : List α} {t : Nat} {y : α} (h : y ∈ L.take t) : ∃ i, ∃ hi : i < L.length, i < t ∧ y = L[i] := by
  obtain ⟨i, hi, rfl⟩ := List.getElem_of_mem h
  rw [List.length_take] at hi
  exact ⟨i, by omega, by omega, by simp⟩
theorem mem_drop' {L : List α} {t : Nat} {y : α} (h : y ∈ L.drop t) : ∃ i, ∃ hi : i < L.length, t ≤ i ∧ y = L[i] := by
  obtain ⟨i, hi, rfl⟩ := List.getElem_of_mem h
  rw [List.length_drop] at hi
  exact ⟨t + i, by omega, by omega, by simp⟩
/-- Of a search for the first that is not below x: what lies ahead of t is below it, what lies from u on is not. -/
structure Lo (f : α → RV) (x : α) (B : List α) (t u : Nat) : Prop where
  tu : t ≤ u
  ub : u ≤ B.length
  lo : ∀ y ∈ B.take t, cmpV (f y) (f x) < 0
  hi : ∀ y ∈ B.drop u, cmpV (f x) (f y) ≤ 0
theorem Lo.start (x : α) (B : List α) : Lo f x B 0 B.length := ⟨Nat.zero_le _, Nat.le_refl _, fun y h => by simp at h, fun y h => by simp at h⟩
theorem Lo.up {x : α} {B : List α} {t u v : Nat} (h : Lo f x B t u) (hs : SortedF f B) (h1 : t ≤ v) (h2 : v < u) (hc : cmpV (f (B[v]'(by have := h.ub; omega))) (f x) < 0) : Lo f x B (v + 1) u := by
  have hub := h.ub
  refine ⟨by omega, hub, fun y hy => ?_, h.hi⟩
  obtain ⟨i, hi, hit, rfl⟩ := mem_take' hy
  exact cmpV_le_lt (hs.le (by omega) (show i ≤ v by omega)) hc
theorem Lo.down {x : α} {B : List α} {t u v : Nat} (h : Lo f x B t u) (hs : SortedF f B) (h1 : t ≤ v) (h2 : v < u) (hc : ¬ cmpV (f (B[v]'(by have := h.ub; omega))) (f x) < 0) : Lo f x B t v := by
  have hub := h.ub
  refine ⟨h1, by omega, h.lo, fun y hy => ?_⟩
  obtain ⟨i, hi, hit, rfl⟩ := mem_drop' hy
  exact cmpV_le_tr (cmpV_flip hc) (hs.le hi hit)
/-- Of a search for the first that is above y. -/
structure Hi (f : α → RV) (y : α) (A : List α) (t u : Nat) : Prop where
  tu : t ≤ u
  ub : u ≤ A.length
  lo : ∀ x ∈ A.take t, cmpV (f x) (f y) ≤ 0
  hi : ∀ x ∈ A.drop u, cmpV (f y) (f x) < 0
theorem Hi.start (y : α) (A : List α) : Hi f y A 0 A.length := ⟨Nat.zero_le _, Nat.le_refl _, fun y h => by simp at h, fun y h => by simp at h⟩
theorem Hi.up {y : α} {A : List α} {t u v : Nat} (h : Hi f y A t u) (hs : SortedF f A) (h1 : t ≤ v) (h2 : v < u) (hc : ¬ cmpV (f y) (f (A[v]'(by have := h.ub; omega))) < 0) : Hi f y A (v + 1) u := by
  have hub := h.ub
  refine ⟨by omega, hub, fun x hx => ?_, h.hi⟩
  obtain ⟨i, hi, hit, rfl⟩ := mem_take' hx
  exact cmpV_le_tr (hs.le (by omega) (show i ≤ v by omega)) (cmpV_flip hc)
theorem Hi.down {y : α} {A : List α} {t u v : Nat} (h : Hi f y A t u) (hs : SortedF f A) (h1 : t ≤ v) (h2 : v < u) (hc : cmpV (f y) (f (A[v]'(by have := h.ub; omega))) < 0) : Hi f y A t v := by
  have hub := h.ub
  refine ⟨h1, by omega, h.lo, fun x hx => ?_⟩
  obtain ⟨i, hi, hit, rfl⟩ := mem_drop' hx
  exact cmpV_lt_le hc (hs.le hi hit)
/-- Of the symmetric search: z is the list, the stretches [a, m) and [m, b). -/
structure Sy (f : α → RV) (z : Nat → α) (s0 r0 p s r : Nat) : Prop where
  ge : s0 ≤ s
  sr : s ≤ r
  le : r ≤ r0
  lo : s0 < s → ¬ cmpV (f (z (p - (s - 1)))) (f (z (s - 1))) < 0
  hi : r < r0 → cmpV (f (z (p - r))) (f (z r)) < 0
theorem Sy.start (z : Nat → α) {s0 r0 p : Nat} (h : s0 ≤ r0) : Sy f z s0 r0 p s0 r0 := ⟨Nat.le_refl _, h, Nat.le_refl _, fun h => by omega, fun h => by omega⟩
theorem Sy.up {z : Nat → α} {s0 r0 p s r c : Nat} (h : Sy f z s0 r0 p s r) (h1 : s ≤ c) (h2 : c < r) (hc : ¬ cmpV (f (z (p - c))) (f (z c)) < 0) : Sy f z s0 r0 p (c + 1) r :=
  ⟨by have := h.ge; omega, by omega, h.le, fun _ => by simpa using hc, h.hi⟩
theorem Sy.down {z : Nat → α} {s0 r0 p s r c : Nat} (h : Sy f z s0 r0 p s r) (h1 : s ≤ c) (h2 : c < r) (hc : cmpV (f (z (p - c))) (f (z c)) < 0) : Sy f z s0 r0 p s c :=
  ⟨h.ge, h1, by have := h.le; omega, h.lo, fun _ => hc⟩
/-- What the symmetric search has found. -/
theorem Sy.found {z : Nat → α} {A B : List α} {a m b mid s0 r0 s : Nat} (h : Sy f z s0 r0 (mid + m - 1) s s) (hA : SortedF f A) (hB : SortedF f B) (hal : a + A.length = m) (hbl : m + B.length = b) (hmid : mid = (a + b) / 2) (h1 : 1 ≤ A.length) (h2 : 1 ≤ B.length)
    (hs0 : s0 = if mid < m then mid + m - b else a) (hr0 : r0 = if mid < m then mid else m)
    (hzA : ∀ i (h : i < A.length), z (a + i) = A[i]) (hzB : ∀ i (h : i < B.length), z (m + i) = B[i]) :
    a ≤ s ∧ s ≤ m ∧ m ≤ mid + m - s ∧ mid + m - s ≤ b ∧ s ≤ mid + m ∧
    (∀ y ∈ B.take (mid - s), ∀ x ∈ A.drop (s - a), cmpV (f y) (f x) < 0) ∧ (∀ x ∈ A.take (s - a), ∀ y ∈ B.drop (mid - s), cmpV (f x) (f y) ≤ 0) := by
  have q1 := h.ge
  have q2 := h.le
  have hms : s ≤ mid := by rw [hr0] at q2; split at q2 <;> omega
  have hsm : s ≤ m := by rw [hr0] at q2; split at q2 <;> omega
  have has : a ≤ s := by rw [hs0] at q1; split at q1 <;> omega
  have hsb : mid + m ≤ b + s := by rw [hs0] at q1; split at q1 <;> omega
  refine ⟨has, hsm, by omega, by omega, by omega, fun y hy x hx => ?_, fun x hx y hy => ?_⟩
  · obtain ⟨i, hi, hit, rfl⟩ := mem_take' hy
    obtain ⟨j, hj, hjt, rfl⟩ := mem_drop' hx
    have hlt : s < r0 := by rw [hr0]; split <;> omega
    have hc := h.hi hlt
    have e1 : mid + m - 1 - s = m + (mid - s - 1) := by omega
    have e2 : s = a + (s - a) := by omega
    rw [e1, hzB _ (by omega)] at hc
    have e3 := hzA (s - a) (by omega)
    rw [← e2] at e3
    rw [e3] at hc
    exact cmpV_le_lt (hB.le (by omega) (show i ≤ mid - s - 1 by omega)) (cmpV_lt_le hc (hA.le hj hjt))
  · obtain ⟨i, hi, hit, rfl⟩ := mem_take' hx
    obtain ⟨j, hj, hjt, rfl⟩ := mem_drop' hy
    have hlt : s0 < s := by rw [hs0]; split <;> omega
    have hc := h.lo hlt
    have e1 : mid + m - 1 - (s - 1) = m + (mid - s) := by omega
    have e2 : s - 1 = a + (s - 1 - a) := by omega
    rw [e1, hzB _ (by omega)] at hc
    have e3 := hzA (s - 1 - a) (by omega)
    rw [← e2] at e3
    rw [e3] at hc
    exact cmpV_le_tr (hA.le (by omega) (show i ≤ s - 1 - a by omega)) (cmpV_le_tr (cmpV_flip hc) (hB.le hj hjt))
end
section
open Go.Sort
variable {α : Type} [Inhabited α]
theorem at_app {d : Array α} {P A S : List α} {a : Nat} (h : d.toList = P ++ (A ++ S)) (hP : P.length = a) (i : Nat) (hi : i < A.length) : d[a + i]! = A[i] := by
  have e : A ++ S = A.take i ++ A[i] :: (A.drop (i + 1) ++ S) := by
    have e2 : A = A.take i ++ A[i] :: A.drop (i + 1) := by
      rw [← List.drop_eq_getElem_cons hi]; exact (List.take_append_drop i A).symm
    have e3 := congrArg (· ++ S) e2
    simpa only [List.append_assoc, List.cons_append] using e3
  rw [e, ← List.append_assoc] at h
  exact at_list h (by simp; omega)
/-- The first, a step on. -/
theorem first_step {d : Array α} {P B S : List α} {x : α} {r a : Nat} (h : d.toList = P ++ (B.take r ++ x :: (B.drop r ++ S))) (hr : r < B.length) (hP : P.length = a) : (swp d (a + r) (a + r + 1)).toList = P ++ (B.take (r + 1) ++ x :: (B.drop (r + 1) ++ S)) ∧ a + r < d.size ∧ a + r + 1 < d.size := by
  have hb : B.drop r = B[r] :: B.drop (r + 1) := List.drop_eq_getElem_cons hr
  have tb : B.take (r + 1) = B.take r ++ [B[r]] := List.take_succ_eq_append_getElem hr
  rw [hb] at h
  have h' : d.toList = (P ++ B.take r) ++ x :: ([] ++ B[r] :: (B.drop (r + 1) ++ S)) := by rw [h]; simp only [List.append_assoc, List.cons_append, List.nil_append]
  obtain ⟨g, _, g2, g3⟩ := swp_lists h' (i := a + r) (j := a + r + 1) (by simp; omega) (by simp)
  refine ⟨?_, g2, g3⟩
  rw [g, tb]; simp only [List.append_assoc, List.cons_append, List.nil_append]
/-- The last, a step back. -/
theorem last_step {d : Array α} {P A S : List α} {y : α} {r a : Nat} (h : d.toList = P ++ (A.take (r + 1) ++ y :: (A.drop (r + 1) ++ S))) (hr : r < A.length) (hP : P.length = a) : (swp d (a + r + 1) (a + r)).toList = P ++ (A.take r ++ y :: (A.drop r ++ S)) ∧ a + r < d.size ∧ a + r + 1 < d.size := by
  have ha : A.drop r = A[r] :: A.drop (r + 1) := List.drop_eq_getElem_cons hr
  have ta : A.take (r + 1) = A.take r ++ [A[r]] := List.take_succ_eq_append_getElem hr
  rw [ta] at h
  have h' : d.toList = (P ++ A.take r) ++ A[r] :: ([] ++ y :: (A.drop (r + 1) ++ S)) := by rw [h]; simp only [List.append_assoc, List.cons_append, List.nil_append]
  obtain ⟨_, g, g2, g3⟩ := swp_lists h' (i := a + r) (j := a + r + 1) (by simp; omega) (by simp)
  refine ⟨?_, g2, g3⟩
  rw [g, ha]; simp only [List.append_assoc, List.cons_append, List.nil_append]
end
end Go.Proofs.YtmmeekmiildliaaGreatDoor
namespace Go.Proofs.YtmmeekmiildliaaGreatDoor
open Go.RowKit
set_option linter.unusedSimpArgs false
set_option linter.unusedVariables false
section
variable {α : Type} {f : α → RV}
theorem flat_len {s : Nat} : ∀ {Ls : List (List α)}, (∀ l ∈ Ls, l.length = s) → Ls.flatten.length = Ls.length * s := by
  intro Ls
  induction Ls with
  | nil => intro _; simp
  | cons l Ls ih =>
    intro h
    rw [List.flatten_cons, List.length_append, ih fun x hx => h x (List.mem_cons_of_mem _ hx), h l (List.mem_cons_self ..), List.length_cons, Nat.add_mul]
    omega
/-- Stretches of s each, in order. -/
def Blks (f : α → RV) (s : Nat) (Ls : List (List α)) : Prop := ∀ l ∈ Ls, l.length = s ∧ SortedF f l
theorem Blks.len {s : Nat} {Ls : List (List α)} (h : Blks f s Ls) : Ls.flatten.length = Ls.length * s := flat_len fun l hl => (h l hl).1
theorem Blks.snoc {s : Nat} {Ls : List (List α)} {M : List α} (h : Blks f s Ls) (hl : M.length = s) (hs : SortedF f M) : Blks f s (Ls ++ [M]) := fun l hm => by
  rcases List.mem_append.1 hm with a | a
  · exact h l a
  · rw [List.mem_singleton.1 a]; exact ⟨hl, hs⟩
theorem Blks.nil {s : Nat} : Blks f s ([] : List (List α)) := fun l h => by cases h
theorem flat_snoc (Ls : List (List α)) (M : List α) : (Ls ++ [M]).flatten = Ls.flatten ++ M := by simp
/-- .. and a shorter one behind. -/
def BlkT (f : α → RV) (s : Nat) (L : List α) : Prop := ∃ Ls last, L = Ls.flatten ++ last ∧ Blks f s Ls ∧ last.length < s ∧ SortedF f last
/-- What is left has two whole ones in front. -/
theorem two_front {s : Nat} {Ls : List (List α)} {last : List α} (h : Blks f s Ls) (hl : last.length < s) (h2 : 2 * s ≤ (Ls.flatten ++ last).length) : ∃ l1 l2 Ls', Ls = l1 :: l2 :: Ls' := by
  rw [List.length_append, h.len] at h2
  match Ls with
  | [] => simp at h2; omega
  | [l] => simp at h2; omega
  | l1 :: l2 :: Ls' => exact ⟨l1, l2, Ls', rfl⟩
/-- What is left has one whole one at most. -/
theorem one_front {s : Nat} {Ls : List (List α)} {last : List α} (h : Blks f s Ls) (h2 : (Ls.flatten ++ last).length < 2 * s) : Ls = [] ∨ ∃ l, Ls = [l] := by
  rw [List.length_append, h.len] at h2
  match Ls with
  | [] => exact .inl rfl
  | [l] => exact .inr ⟨l, rfl⟩
  | l1 :: l2 :: Ls' =>
    exfalso
    rw [List.length_cons, List.length_cons, Nat.add_mul, Nat.add_mul] at h2
    omega
theorem BlkT.sorted {s : Nat} {L : List α} (h : BlkT f s L) (hl : L.length ≤ s) : SortedF f L := by
  obtain ⟨Ls, last, rfl, hb, h1, h2⟩ := h
  rcases one_front hb (show (Ls.flatten ++ last).length < 2 * s by omega) with rfl | ⟨l, rfl⟩
  · simpa using h2
  · have h3 := hb l (List.mem_cons_self ..)
    have : last = [] := List.eq_nil_of_length_eq_zero (by simp at hl; omega)
    subst this
    simpa using h3.2
end
end Go.Proofs.YtmmeekmiildliaaGreatDoor
namespace Go.Proofs.YtmmeekmiildliaaGreatDoor
open Go.RowKit Go.Shelf
open Go.Sort hiding Below
set_option linter.unusedSimpArgs false
set_option linter.unusedVariables false
def fG (w0 : World) (z : GZ w0) : RV := z.1.2
/-- Two stretches in order are put together. -/
def SymPost (k4 : Nat) (w0 w : World) (blk off : Nat) (P A B S : List (GZ w0)) (e : Ending) (W' : World) : Prop :=
  e = .returned (.tuple #[]) ∧ ∃ M, SwSt k4 w0 w blk off (P ++ (M ++ S)) W' ∧ SortedF (fG w0) M ∧ SameF (fG w0) (A ++ B) M
set_option maxRecDepth 1000000 in
set_option maxHeartbeats 16000000 in
theorem sym_first (k4 : Nat) (hk4 : k4 = 4) (w0 w W : World) (blk off cap n a b m : Nat) (d0 : Array (GZ w0)) (R : RowK (encG w0) k4 w blk off d0) (hC : CmpLays Tryz.prog 41 #[] (encG w0) k4 (cfG w0) blk off d0.size w) (hs0 : d0.size = n) (hn : n ≤ 1000000)
    (P B S : List (GZ w0)) (x : GZ w0) (hW : SwSt k4 w0 w blk off (P ++ (x :: (B ++ S))) W) (hL : (P ++ (x :: (B ++ S))).length = n) (hP : P.length = a) (hA : a + 1 = m) (hB : m + B.length = b) (hB1 : 1 ≤ B.length) (hBs : SortedF (fG w0) B) :
    Calls Tryz.prog 114 #[.slice (some ⟨blk, off, none⟩) n cap, .int .i64 a, .int .i64 m, .int .i64 b, .func (.func 41) #[] #[]] W (SymPost k4 w0 w blk off P [x] B S) := by
  have HK4 := Lib.hid hk4
  obtain ⟨dk, hdl, hsw⟩ := hW
  have hds : dk.size = d0.size := by rw [len_list hdl, hL, hs0]
  have hdx : dk[a]! = x := at_list hdl hP
  have hdB : ∀ i (h : i < B.length), dk[m + i]! = B[i] := fun i h => at_app (P := P ++ [x]) (A := B) (S := S) (d := dk) (a := m) (by rw [hdl]; simp) (by simp; omega) i h
  have hbn : b ≤ n := by simp at hL; omega
  have HDB := Lib.hid hdB
  have HDX := Lib.hid hdx
  have HBS := Lib.hid hBs
  clear hdB hdx hBs
  have HDL := Lib.hid hdl
  have HDS := Lib.hid hds
  have HSW := Lib.hid hsw
  have HCM := Lib.hid hC
  have HLN := Lib.hid hL
  have HPL := Lib.hid hP
  have HS0 := Lib.hid hs0
  clear hk4 hC hdl hsw hds hL hP hs0
  have z1 : (m : Int) - (a : Int) = 1 := by omega
  go_enter Tryz.func114, Tryz.ntmps114
  go_wp2
  go_loopw [10, 11] (fun vi vj wr => ∃ i j : Nat, vi = .int .i64 i ∧ vj = .int .i64 j ∧ m ≤ i ∧ i ≤ j ∧ j ≤ b ∧ Hid (Lo (fG w0) x B (i - m) (j - m)) ∧ Hid (SWK (encG w0) k4 w blk off dk wr)) (fun vi vj _ => (intOf vj).toNat - (intOf vi).toNat)
  case atStart => exact ⟨m, b, rfl, rfl, Nat.le_refl _, by omega, Nat.le_refl _, Lib.hid (by rw [Nat.sub_self, show b - m = B.length by omega]; exact Lo.start _ _), HSW⟩
  case round =>
    clear HSW
    obtain ⟨i, j, rfl, rfl, hmi, hij, hjb, HLO, HSW⟩ := hrel
    by_cases hlt : i < j
    · have hltz : (i : Int) < (j : Int) := by omega
      obtain ⟨h, hh⟩ : ∃ h, h = (i + j) / 2 := ⟨_, rfl⟩
      have eh : ((i : Int) + (j : Int)) / 2 = (h : Int) := by omega
      have hih : i ≤ h := by omega
      have hhj : h < j := by omega
      have th : ((h : Nat) : Int).toNat = h := by omega
      have ph : (0 : Int) ≤ (h : Int) := by omega
      have bh : (h : Int) < (n : Int) := by omega
      have ta : ((a : Nat) : Int).toNat = a := by omega
      have pa : (0 : Int) ≤ (a : Int) := by omega
      have ba : (a : Int) < (n : Int) := by omega
      obtain ⟨xa, hxa⟩ : ∃ y, y = dk[h]! := ⟨_, rfl⟩
      obtain ⟨xb, hxb⟩ : ∃ y, y = dk[a]! := ⟨_, rfl⟩
      have hv : h - m < B.length := by omega
      have HXA := Lib.hid (show xa = B[h - m]'hv by rw [hxa, ← HDB.out (h - m) (by omega)]; congr 1; omega)
      have HXB := Lib.hid (hxb.trans HDX.out)
      have HQA := Lib.hid hxa.symm
      have HQB := Lib.hid hxb.symm
      clear hxa hxb hh
      by_cases hlv : cfG w0 xa xb < 0
      · have hd : decide (cfG w0 xa xb < 0) = true := decide_eq_true hlv
        have HN := Lib.hid (show Lo (fG w0) x B (h + 1 - m) (j - m) by
          have h2 := HLO.out.up HBS.out (v := h - m) (by omega) (by omega) (by have h5 := hlv; rw [HXA.out, HXB.out] at h5; exact h5)
          rwa [show h - m + 1 = h + 1 - m by omega] at h2)
        have l1 := HSW.out.ld R HDS.out Tryz.prog h (by rw [HDS.out, HS0.out]; omega)
        have l2 := HSW.out.ld R HDS.out Tryz.prog a (by rw [HDS.out, HS0.out]; omega)
        rw [HQA.out] at l1
        rw [HQB.out] at l2
        have hc := HSW.out.cmp HCM.out HDS.out xa xb
        have eg : ∀ args w, (callFunc 41 args).run Tryz.prog w = .ok (.enter 41 args) w := enters_of Tryz.func41 (by kernel_rfl) rfl
        have mixed : Tryz.prog.follows .mixedOrders = true := by kernel_rfl
        have u41 := run_underlying Tryz.underlying46
        have t3 := Tryz.underlying3; have a3 := fun w => Tryz.isAgg3 w; have z3 := fun w => Tryz.sizeOf3 w
        have t4 := Tryz.underlying4; have a4 := fun w => Tryz.isAgg4 w; have z4 := fun w => Tryz.sizeOf4 w
        have t41 := Tryz.underlying46; have a41 := fun w => Tryz.isAgg46 w; have z41 := fun w => Tryz.sizeOf46 w
        have t45 := Tryz.underlying79; have a45 := fun w => Tryz.isAgg79 w; have z45 := fun w => Tryz.sizeOf79 w
        have aE : ∀ w, (isAgg 59).run Tryz.prog w = .ok true w := fun w => Tryz.isAgg59 w
        have zE : ∀ w, (Go.sizeOf 59).run Tryz.prog w = .ok k4 w := fun w => by rw [HK4.out]; exact Tryz.sizeOf59 w
        have n1 : (encG w0 xa).length = k4 := R.hk _
        have n2 : (encG w0 xb).length = k4 := R.hk _
        have HX1 := Lib.hid n1
        clear n1 n2
        go_wp2_with fail
        generalize Tryz.prog = P at mixed u41 t3 a3 z3 t4 a4 z4 t41 a41 z41 t45 a45 z45 aE zE eg hc l1 l2 ⊢
        go_quiet_grown (first | (go_at_fn 41; refine Calls.grown_of (hc _ _)))
        have SU2 := Lib.hid (HSW.out.grown nq osq)
        clear mixed u41 t3 a3 z3 t4 a4 z4 t41 a41 z41 t45 a45 z45 aE zE eg hc l1 l2 HSW
        generalize grow (wr.drewN nq) osq = wu2 at SU2 ⊢
        clear nq osq
        go_wp2
        go_roundw
        case rel => exact ⟨h + 1, j, by go_num, rfl, by omega, by omega, hjb, HN, SU2⟩
        case measure => simp [intOf]; omega
      · have hd : decide (cfG w0 xa xb < 0) = false := decide_eq_false hlv
        have HN := Lib.hid (show Lo (fG w0) x B (i - m) (h - m) from HLO.out.down HBS.out (v := h - m) (by omega) (by omega) (by have h5 := hlv; rw [HXA.out, HXB.out] at h5; exact h5))
        have l1 := HSW.out.ld R HDS.out Tryz.prog h (by rw [HDS.out, HS0.out]; omega)
        have l2 := HSW.out.ld R HDS.out Tryz.prog a (by rw [HDS.out, HS0.out]; omega)
        rw [HQA.out] at l1
        rw [HQB.out] at l2
        have hc := HSW.out.cmp HCM.out HDS.out xa xb
        have eg : ∀ args w, (callFunc 41 args).run Tryz.prog w = .ok (.enter 41 args) w := enters_of Tryz.func41 (by kernel_rfl) rfl
        have mixed : Tryz.prog.follows .mixedOrders = true := by kernel_rfl
        have u41 := run_underlying Tryz.underlying46
        have t3 := Tryz.underlying3; have a3 := fun w => Tryz.isAgg3 w; have z3 := fun w => Tryz.sizeOf3 w
        have t4 := Tryz.underlying4; have a4 := fun w => Tryz.isAgg4 w; have z4 := fun w => Tryz.sizeOf4 w
        have t41 := Tryz.underlying46; have a41 := fun w => Tryz.isAgg46 w; have z41 := fun w => Tryz.sizeOf46 w
        have t45 := Tryz.underlying79; have a45 := fun w => Tryz.isAgg79 w; have z45 := fun w => Tryz.sizeOf79 w
        have aE : ∀ w, (isAgg 59).run Tryz.prog w = .ok true w := fun w => Tryz.isAgg59 w
        have zE : ∀ w, (Go.sizeOf 59).run Tryz.prog w = .ok k4 w := fun w => by rw [HK4.out]; exact Tryz.sizeOf59 w
        have n1 : (encG w0 xa).length = k4 := R.hk _
        have n2 : (encG w0 xb).length = k4 := R.hk _
        have HX1 := Lib.hid n1
        clear n1 n2
        go_wp2_with fail
        generalize Tryz.prog = P at mixed u41 t3 a3 z3 t4 a4 z4 t41 a41 z41 t45 a45 z45 aE zE eg hc l1 l2 ⊢
        go_quiet_grown (first | (go_at_fn 41; refine Calls.grown_of (hc _ _)))
        have SU2 := Lib.hid (HSW.out.grown nq osq)
        clear mixed u41 t3 a3 z3 t4 a4 z4 t41 a41 z41 t45 a45 z45 aE zE eg hc l1 l2 HSW
        generalize grow (wr.drewN nq) osq = wu2 at SU2 ⊢
        clear nq osq
        go_wp2
        go_roundw
        case rel => exact ⟨i, h, rfl, rfl, hmi, hih, by omega, HN, SU2⟩
        case measure => simp [intOf]; omega
    · have hltz : ¬ (i : Int) < (j : Int) := by omega
      obtain rfl : i = j := by omega
      obtain ⟨t, ht⟩ : ∃ t, t = i - m := ⟨_, rfl⟩
      have HT := Lib.hid ht
      have HS1 := Lib.hid (show SwSt k4 w0 w blk off (P ++ (B.take 0 ++ x :: (B.drop 0 ++ S))) wr from ⟨dk, by rw [HDL.out]; simp, HSW.out⟩)
      clear HSW ht
      go_wp2
      obtain ⟨wo, rfl⟩ : ∃ wo : World, wo = wr := ⟨_, rfl⟩
      go_loopw [13] (fun vk wr => ∃ k : Nat, vk = .int .i64 k ∧ a ≤ k ∧ k + 1 ≤ i ∧ Hid (SwSt k4 w0 w blk off (P ++ (B.take (k - a) ++ x :: (B.drop (k - a) ++ S))) wr)) (fun vk _ => i - (intOf vk).toNat)
      case atStart => exact ⟨a, rfl, Nat.le_refl _, by omega, by rw [Nat.sub_self]; exact HS1⟩
      case round =>
        clear HS1
        obtain ⟨k, rfl, hak, hki, HS⟩ := hrel
        by_cases hlk : k + 1 < i
        · have hlkz : (k : Int) < (i : Int) - 1 := by omega
          obtain ⟨dj, hdl2, hsw2⟩ := HS.out
          obtain ⟨hst, hi1, hi2⟩ := first_step hdl2 (show k - a < B.length by omega) HPL.out
          rw [show a + (k - a) = k by omega] at hst
          rw [show a + (k - a) = k by omega] at hi1
          rw [show a + (k - a) + 1 = k + 1 by omega] at hi2
          have hds2 : dj.size = d0.size := by
            rw [len_list hdl2, HS0.out, ← HLN.out]
            simp; omega
          have HST := Lib.hid hst
          clear hdl2 hst HS
          have SW2 := Lib.hid (hsw2.swapped R k (k + 1) hi1 hi2)
          have l1 := hsw2.ld1 R hds2 Tryz.prog k hi1
          have l2 := hsw2.ld1 R hds2 Tryz.prog (k + 1) hi2
          have s1 := hsw2.st1 R hds2 Tryz.prog k hi1 dj[(k + 1)]!
          have s2 := hsw2.st2 R hds2 Tryz.prog k (k + 1) hi1 hi2 dj[(k + 1)]! dj[k]!
          have n1 : (encG w0 dj[k]!).length = k4 := R.hk _
          have n2 : (encG w0 dj[(k + 1)]!).length = k4 := R.hk _
          generalize encG w0 dj[k]! = cI at SW2 l1 s2 n1
          generalize encG w0 dj[(k + 1)]! = cJ at SW2 l2 s1 s2 n2
          have ti : ((k : Int)).toNat = k := by omega
          have tj : (((k : Int) + 1)).toNat = (k + 1) := by omega
          have pi : (0 : Int) ≤ (k : Int) := by omega
          have pj : (0 : Int) ≤ ((k : Int) + 1) := by omega
          have bi : (k : Int) < (n : Int) := by omega
          have bj : ((k : Int) + 1) < (n : Int) := by omega
          have wi : IntKind.i64.wrap ((k : Int)) = (k : Int) := by rw [IntKind.wrap_i64]; omega
          have wj : IntKind.i64.wrap (((k : Int) + 1)) = ((k : Int) + 1) := by rw [IntKind.wrap_i64]; omega
          have mixed : Tryz.prog.follows .mixedOrders = true := by kernel_rfl
          have u41 := run_underlying Tryz.underlying46
          have t3 := Tryz.underlying3; have a3 := fun w => Tryz.isAgg3 w; have z3 := fun w => Tryz.sizeOf3 w
          have t4 := Tryz.underlying4; have a4 := fun w => Tryz.isAgg4 w; have z4 := fun w => Tryz.sizeOf4 w
          have t41 := Tryz.underlying46; have a41 := fun w => Tryz.isAgg46 w; have z41 := fun w => Tryz.sizeOf46 w
          have t45 := Tryz.underlying79; have a45 := fun w => Tryz.isAgg79 w; have z45 := fun w => Tryz.sizeOf79 w
          have aE : ∀ w, (isAgg 59).run Tryz.prog w = .ok true w := fun w => Tryz.isAgg59 w
          have zE : ∀ w, (Go.sizeOf 59).run Tryz.prog w = .ok k4 w := fun w => by rw [HK4.out]; exact Tryz.sizeOf59 w
          clear hsw2 hi1 hi2 hds2
          go_wp2_with fail
          generalize Tryz.prog = P at mixed u41 t3 a3 z3 t4 a4 z4 t41 a41 z41 t45 a45 z45 aE zE l1 l2 s1 s2 ⊢
          go_big_region_o
          clear mixed u41 t3 a3 z3 t4 a4 z4 t41 a41 z41 t45 a45 z45 aE zE l1 l2 s1 s2 ti tj pi pj bi bj wi wj n1 n2
          generalize (wr.drew.setCells blk (off + k * k4) cJ).setCells blk (off + (k + 1) * k4) cI = w2 at SW2 ⊢
          go_wp2
          go_roundw
          case rel => exact ⟨k + 1, by go_num, by omega, by omega, Lib.hid ⟨_, by rw [HST.out, show k + 1 - a = k - a + 1 by omega], SW2.out⟩⟩
          case measure => simp [intOf]; omega
        · have hlkz : ¬ (k : Int) < (i : Int) - 1 := by omega
          go_wp2
          go_end0
          refine ⟨rfl, B.take (k - a) ++ x :: B.drop (k - a), ?_, ?_⟩
          · have := HS.out
            simpa using this
          · have e : k - a = i - m := by omega
            rw [e]
            have hl := HLO.out
            have hp := put_first (f := fG w0) (x := x) (B1 := B.take (i - m)) (B2 := B.drop (i - m)) (by rw [List.take_append_drop]; exact HBS.out) hl.lo hl.hi
            rw [List.take_append_drop] at hp
            exact hp
set_option maxRecDepth 1000000 in
set_option maxHeartbeats 16000000 in
theorem sym_last (k4 : Nat) (hk4 : k4 = 4) (w0 w W : World) (blk off cap n a b m : Nat) (d0 : Array (GZ w0)) (R : RowK (encG w0) k4 w blk off d0) (hC : CmpLays Tryz.prog 41 #[] (encG w0) k4 (cfG w0) blk off d0.size w) (hs0 : d0.size = n) (hn : n ≤ 1000000)
    (P A S : List (GZ w0)) (y : GZ w0) (hW : SwSt k4 w0 w blk off (P ++ (A ++ (y :: S))) W) (hL : (P ++ (A ++ (y :: S))).length = n) (hP : P.length = a) (hA : a + A.length = m) (hB : m + 1 = b) (hA1 : 2 ≤ A.length) (hAs : SortedF (fG w0) A) :
    Calls Tryz.prog 114 #[.slice (some ⟨blk, off, none⟩) n cap, .int .i64 a, .int .i64 m, .int .i64 b, .func (.func 41) #[] #[]] W (SymPost k4 w0 w blk off P A [y] S) := by
  have HK4 := Lib.hid hk4
  obtain ⟨dk, hdl, hsw⟩ := hW
  have hds : dk.size = d0.size := by rw [len_list hdl, hL, hs0]
  have hdx : dk[m]! = y := at_list (A := P ++ A) (B := S) (by rw [hdl]; simp) (by simp; omega)
  have hdA : ∀ i (h : i < A.length), dk[a + i]! = A[i] := fun i h => at_app (P := P) (A := A) (S := y :: S) hdl hP i h
  have hbn : b ≤ n := by simp at hL; omega
  have HDA := Lib.hid hdA
  have HDX := Lib.hid hdx
  have HAS := Lib.hid hAs
  clear hdA hdx hAs
  have HDL := Lib.hid hdl
  have HDS := Lib.hid hds
  have HSW := Lib.hid hsw
  have HCM := Lib.hid hC
  have HLN := Lib.hid hL
  have HPL := Lib.hid hP
  have HS0 := Lib.hid hs0
  clear hk4 hC hdl hsw hds hL hP hs0
  have z1 : ¬ (m : Int) - (a : Int) = 1 := by omega
  have z2 : (b : Int) - (m : Int) = 1 := by omega
  have z3 : ((m : Int) - (a : Int) == 1) = false := by simp; omega
  go_enter Tryz.func114, Tryz.ntmps114
  go_wp2
  go_loopw [14, 15] (fun vi vj wr => ∃ i j : Nat, vi = .int .i64 i ∧ vj = .int .i64 j ∧ a ≤ i ∧ i ≤ j ∧ j ≤ m ∧ Hid (Hi (fG w0) y A (i - a) (j - a)) ∧ Hid (SWK (encG w0) k4 w blk off dk wr)) (fun vi vj _ => (intOf vj).toNat - (intOf vi).toNat)
  case atStart => exact ⟨a, m, rfl, rfl, Nat.le_refl _, by omega, Nat.le_refl _, Lib.hid (by rw [Nat.sub_self, show m - a = A.length by omega]; exact Hi.start _ _), HSW⟩
  case round =>
    clear HSW
    obtain ⟨i, j, rfl, rfl, hmi, hij, hjb, HLO, HSW⟩ := hrel
    by_cases hlt : i < j
    · have hltz : (i : Int) < (j : Int) := by omega
      obtain ⟨h, hh⟩ : ∃ h, h = (i + j) / 2 := ⟨_, rfl⟩
      have eh : ((i : Int) + (j : Int)) / 2 = (h : Int) := by omega
      have hih : i ≤ h := by omega
      have hhj : h < j := by omega
      have th : ((h : Nat) : Int).toNat = h := by omega
      have ph : (0 : Int) ≤ (h : Int) := by omega
      have bh : (h : Int) < (n : Int) := by omega
      have ta : ((m : Nat) : Int).toNat = m := by omega
      have pa : (0 : Int) ≤ (m : Int) := by omega
      have ba : (m : Int) < (n : Int) := by omega
      obtain ⟨xb, hxb⟩ : ∃ y, y = dk[h]! := ⟨_, rfl⟩
      obtain ⟨xa, hxa⟩ : ∃ y, y = dk[m]! := ⟨_, rfl⟩
      have hv : h - a < A.length := by omega
      have HXB := Lib.hid (show xb = A[h - a]'hv by rw [hxb, ← HDA.out (h - a) (by omega)]; congr 1; omega)
      have HXA := Lib.hid (hxa.trans HDX.out)
      have HQA := Lib.hid hxa.symm
      have HQB := Lib.hid hxb.symm
      clear hxa hxb hh
      by_cases hlv : cfG w0 xa xb < 0
      · have hd : decide (cfG w0 xa xb < 0) = true := decide_eq_true hlv
        have HN := Lib.hid (show Hi (fG w0) y A (i - a) (h - a) from HLO.out.down HAS.out (v := h - a) (by omega) (by omega) (by have h5 := hlv; rw [HXA.out, HXB.out] at h5; exact h5))
        have l1 := HSW.out.ld R HDS.out Tryz.prog m (by rw [HDS.out, HS0.out]; omega)
        have l2 := HSW.out.ld R HDS.out Tryz.prog h (by rw [HDS.out, HS0.out]; omega)
        rw [HQA.out] at l1
        rw [HQB.out] at l2
        have hc := HSW.out.cmp HCM.out HDS.out xa xb
        have eg : ∀ args w, (callFunc 41 args).run Tryz.prog w = .ok (.enter 41 args) w := enters_of Tryz.func41 (by kernel_rfl) rfl
        have mixed : Tryz.prog.follows .mixedOrders = true := by kernel_rfl
        have u41 := run_underlying Tryz.underlying46
        have t3 := Tryz.underlying3; have a3 := fun w => Tryz.isAgg3 w; have z3 := fun w => Tryz.sizeOf3 w
        have t4 := Tryz.underlying4; have a4 := fun w => Tryz.isAgg4 w; have z4 := fun w => Tryz.sizeOf4 w
        have t41 := Tryz.underlying46; have a41 := fun w => Tryz.isAgg46 w; have z41 := fun w => Tryz.sizeOf46 w
        have t45 := Tryz.underlying79; have a45 := fun w => Tryz.isAgg79 w; have z45 := fun w => Tryz.sizeOf79 w
        have aE : ∀ w, (isAgg 59).run Tryz.prog w = .ok true w := fun w => Tryz.isAgg59 w
        have zE : ∀ w, (Go.sizeOf 59).run Tryz.prog w = .ok k4 w := fun w => by rw [HK4.out]; exact Tryz.sizeOf59 w
        have n1 : (encG w0 xa).length = k4 := R.hk _
        have n2 : (encG w0 xb).length = k4 := R.hk _
        have HX1 := Lib.hid n1
        clear n1 n2
        go_wp2_with fail
        generalize Tryz.prog = P at mixed u41 t3 a3 z3 t4 a4 z4 t41 a41 z41 t45 a45 z45 aE zE eg hc l1 l2 ⊢
        go_quiet_grown (first | (go_at_fn 41; refine Calls.grown_of (hc _ _)))
        have SU2 := Lib.hid (HSW.out.grown nq osq)
        clear mixed u41 t3 a3 z3 t4 a4 z4 t41 a41 z41 t45 a45 z45 aE zE eg hc l1 l2 HSW
        generalize grow (wr.drewN nq) osq = wu2 at SU2 ⊢
        clear nq osq
        go_wp2
        go_roundw
        case rel => exact ⟨i, h, rfl, rfl, hmi, hih, by omega, HN, SU2⟩
        case measure => simp [intOf]; omega
      · have hd : decide (cfG w0 xa xb < 0) = false := decide_eq_false hlv
        have HN := Lib.hid (show Hi (fG w0) y A (h + 1 - a) (j - a) by
          have h2 := HLO.out.up HAS.out (v := h - a) (by omega) (by omega) (by have h5 := hlv; rw [HXA.out, HXB.out] at h5; exact h5)
          rwa [show h - a + 1 = h + 1 - a by omega] at h2)
        have l1 := HSW.out.ld R HDS.out Tryz.prog m (by rw [HDS.out, HS0.out]; omega)
        have l2 := HSW.out.ld R HDS.out Tryz.prog h (by rw [HDS.out, HS0.out]; omega)
        rw [HQA.out] at l1
        rw [HQB.out] at l2
        have hc := HSW.out.cmp HCM.out HDS.out xa xb
        have eg : ∀ args w, (callFunc 41 args).run Tryz.prog w = .ok (.enter 41 args) w := enters_of Tryz.func41 (by kernel_rfl) rfl
        have mixed : Tryz.prog.follows .mixedOrders = true := by kernel_rfl
        have u41 := run_underlying Tryz.underlying46
        have t3 := Tryz.underlying3; have a3 := fun w => Tryz.isAgg3 w; have z3 := fun w => Tryz.sizeOf3 w
        have t4 := Tryz.underlying4; have a4 := fun w => Tryz.isAgg4 w; have z4 := fun w => Tryz.sizeOf4 w
        have t41 := Tryz.underlying46; have a41 := fun w => Tryz.isAgg46 w; have z41 := fun w => Tryz.sizeOf46 w
        have t45 := Tryz.underlying79; have a45 := fun w => Tryz.isAgg79 w; have z45 := fun w => Tryz.sizeOf79 w
        have aE : ∀ w, (isAgg 59).run Tryz.prog w = .ok true w := fun w => Tryz.isAgg59 w
        have zE : ∀ w, (Go.sizeOf 59).run Tryz.prog w = .ok k4 w := fun w => by rw [HK4.out]; exact Tryz.sizeOf59 w
        have n1 : (encG w0 xa).length = k4 := R.hk _
        have n2 : (encG w0 xb).length = k4 := R.hk _
        have HX1 := Lib.hid n1
        clear n1 n2
        go_wp2_with fail
        generalize Tryz.prog = P at mixed u41 t3 a3 z3 t4 a4 z4 t41 a41 z41 t45 a45 z45 aE zE eg hc l1 l2 ⊢
        go_quiet_grown (first | (go_at_fn 41; refine Calls.grown_of (hc _ _)))
        have SU2 := Lib.hid (HSW.out.grown nq osq)
        clear mixed u41 t3 a3 z3 t4 a4 z4 t41 a41 z41 t45 a45 z45 aE zE eg hc l1 l2 HSW
        generalize grow (wr.drewN nq) osq = wu2 at SU2 ⊢
        clear nq osq
        go_wp2
        go_roundw
        case rel => exact ⟨h + 1, j, by go_num, rfl, by omega, by omega, hjb, HN, SU2⟩
        case measure => simp [intOf]; omega
    · have hltz : ¬ (i : Int) < (j : Int) := by omega
      obtain rfl : i = j := by omega
      have HS1 := Lib.hid (show SwSt k4 w0 w blk off (P ++ (A.take (m - a) ++ y :: (A.drop (m - a) ++ S))) wr from ⟨dk, by rw [HDL.out, List.take_of_length_le (by omega), List.drop_eq_nil_of_le (by omega)]; simp, HSW.out⟩)
      clear HSW
      go_wp2
      obtain ⟨wo, rfl⟩ : ∃ wo : World, wo = wr := ⟨_, rfl⟩
      go_loopw [17] (fun vk wr => ∃ k : Nat, vk = .int .i64 k ∧ i ≤ k ∧ k ≤ m ∧ Hid (SwSt k4 w0 w blk off (P ++ (A.take (k - a) ++ y :: (A.drop (k - a) ++ S))) wr)) (fun vk _ => (intOf vk).toNat)
      case atStart => exact ⟨m, rfl, hjb, Nat.le_refl _, HS1⟩
      case round =>
        clear HS1
        obtain ⟨k, rfl, hik, hkm, HS⟩ := hrel
        by_cases hlk : i < k
        · have hlkz : (i : Int) < (k : Int) := by omega
          obtain ⟨k1, rfl⟩ : ∃ k1, k = k1 + 1 := ⟨k - 1, by omega⟩
          obtain ⟨dj, hdl2, hsw2⟩ := HS.out
          obtain ⟨hst, hi1, hi2⟩ := last_step (r := k1 - a) (by rw [hdl2, show k1 + 1 - a = k1 - a + 1 by omega]) (show k1 - a < A.length by omega) HPL.out
          rw [show a + (k1 - a) + 1 = k1 + 1 by omega, show a + (k1 - a) = k1 by omega] at hst
          rw [show a + (k1 - a) = k1 by omega] at hi1
          rw [show a + (k1 - a) + 1 = k1 + 1 by omega] at hi2
          have hds2 : dj.size = d0.size := by
            rw [len_list hdl2, HS0.out, ← HLN.out]
            simp; omega
          have HST := Lib.hid hst
          have hi3 := hi1
          have hi1 := hi2
          have hi2 := hi3
          clear hdl2 hst HS hi3
          have SW2 := Lib.hid (hsw2.swapped R (k1 + 1) k1 hi1 hi2)
          have l1 := hsw2.ld1 R hds2 Tryz.prog (k1 + 1) hi1
          have l2 := hsw2.ld1 R hds2 Tryz.prog k1 hi2
          have s1 := hsw2.st1 R hds2 Tryz.prog (k1 + 1) hi1 dj[k1]!
          have s2 := hsw2.st2 R hds2 Tryz.prog (k1 + 1) k1 hi1 hi2 dj[k1]! dj[(k1 + 1)]!
          have n1 : (encG w0 dj[(k1 + 1)]!).length = k4 := R.hk _
          have n2 : (encG w0 dj[k1]!).length = k4 := R.hk _
          generalize encG w0 dj[(k1 + 1)]! = cI at SW2 l1 s2 n1
          generalize encG w0 dj[k1]! = cJ at SW2 l2 s1 s2 n2
          have ti : (((k1 : Int) + 1)).toNat = (k1 + 1) := by omega
          have tj : ((k1 : Int)).toNat = k1 := by omega
          have pi : (0 : Int) ≤ ((k1 : Int) + 1) := by omega
          have pj : (0 : Int) ≤ (k1 : Int) := by omega
          have bi : ((k1 : Int) + 1) < (n : Int) := by omega
          have bj : (k1 : Int) < (n : Int) := by omega
          have wi : IntKind.i64.wrap (((k1 : Int) + 1)) = ((k1 : Int) + 1) := by rw [IntKind.wrap_i64]; omega
          have wj : IntKind.i64.wrap ((k1 : Int)) = (k1 : Int) := by rw [IntKind.wrap_i64]; omega
          have mixed : Tryz.prog.follows .mixedOrders = true := by kernel_rfl
          have u41 := run_underlying Tryz.underlying46
          have t3 := Tryz.underlying3; have a3 := fun w => Tryz.isAgg3 w; have z3 := fun w => Tryz.sizeOf3 w
          have t4 := Tryz.underlying4; have a4 := fun w => Tryz.isAgg4 w; have z4 := fun w => Tryz.sizeOf4 w
          have t41 := Tryz.underlying46; have a41 := fun w => Tryz.isAgg46 w; have z41 := fun w => Tryz.sizeOf46 w
          have t45 := Tryz.underlying79; have a45 := fun w => Tryz.isAgg79 w; have z45 := fun w => Tryz.sizeOf79 w
          have aE : ∀ w, (isAgg 59).run Tryz.prog w = .ok true w := fun w => Tryz.isAgg59 w
          have zE : ∀ w, (Go.sizeOf 59).run Tryz.prog w = .ok k4 w := fun w => by rw [HK4.out]; exact Tryz.sizeOf59 w
          clear hsw2 hi1 hi2 hds2
          go_wp2_with fail
          generalize Tryz.prog = P at mixed u41 t3 a3 z3 t4 a4 z4 t41 a41 z41 t45 a45 z45 aE zE l1 l2 s1 s2 ⊢
          go_big_region_o
          clear mixed u41 t3 a3 z3 t4 a4 z4 t41 a41 z41 t45 a45 z45 aE zE l1 l2 s1 s2 ti tj pi pj bi bj wi wj n1 n2
          generalize (wr.drew.setCells blk (off + (k1 + 1) * k4) cJ).setCells blk (off + k1 * k4) cI = w2 at SW2 ⊢
          go_wp2
          go_roundw
          case rel => exact ⟨k1, by first | rfl | go_num | (congr 1; omega), by omega, by omega, Lib.hid ⟨_, HST.out, SW2.out⟩⟩
          case measure => simp [intOf]
        · have hlkz : ¬ (i : Int) < (k : Int) := by omega
          obtain rfl : i = k := by omega
          go_wp2
          go_end0
          refine ⟨rfl, A.take (i - a) ++ y :: A.drop (i - a), ?_, ?_⟩
          · have := HS.out
            simpa using this
          · have hl := HLO.out
            have hp := put_last (f := fG w0) (y := y) (A1 := A.take (i - a)) (A2 := A.drop (i - a)) (by rw [List.take_append_drop]; exact HAS.out) hl.lo hl.hi
            rw [List.take_append_drop] at hp
            exact hp
end Go.Proofs.YtmmeekmiildliaaGreatDoor
