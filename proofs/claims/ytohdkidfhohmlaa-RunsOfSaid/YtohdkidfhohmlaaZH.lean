/- What two sets have, by the document: Or. -/
import Derived.Test.YtohdkidfhohmlaaZG
namespace Go.Proofs.Ytohdkidfhohmlaa
open Go.RowKit
set_option linter.unusedSimpArgs false
set_option linter.unusedVariables false
/-- Two rising lists, merged so far. -/
def OrSt (xs ys : List Int) (i k : Nat) (l : List Int) : Prop :=
  l.Pairwise (· < ·) ∧ (∀ e, e ∈ l ↔ e ∈ xs.take i ∨ e ∈ ys.take k) ∧ ∀ e ∈ l, (∀ h : i < xs.length, e < xs[i]) ∧ (∀ h : k < ys.length, e < ys[k])
theorem OrSt.zero (xs ys : List Int) : OrSt xs ys 0 0 [] := ⟨.nil, by simp, by simp⟩
theorem pw_lt {xs : List Int} (h : xs.Pairwise (· < ·)) {i : Nat} (hi : i + 1 < xs.length) : xs[i] < xs[i + 1] := List.pairwise_iff_getElem.1 h i (i + 1) (by omega) hi (by omega)
theorem pw_snoc {l : List Int} {x : Int} (h : l.Pairwise (· < ·)) (hx : ∀ e ∈ l, e < x) : (l ++ [x]).Pairwise (· < ·) :=
  List.pairwise_append.2 ⟨h, List.pairwise_singleton _ _, fun a ha b hb => by simp at hb; subst hb; exact hx a ha⟩
theorem OrSt.x {xs ys : List Int} {i k : Nat} {l : List Int} (hX : xs.Pairwise (· < ·)) (h : OrSt xs ys i k l) (hi : i < xs.length) (hk : ∀ h : k < ys.length, xs[i] < ys[k]) : OrSt xs ys (i + 1) k (l ++ [xs[i]]) := by
  obtain ⟨h1, h2, h3⟩ := h
  refine ⟨pw_snoc h1 (fun e he => (h3 e he).1 hi), fun e => ?_, fun e he => ?_⟩
  · rw [List.mem_append, h2, take_snoc xs i hi, List.mem_append]
    constructor
    · rintro ((h | h) | h)
      · exact .inl (.inl h)
      · exact .inr h
      · exact .inl (.inr h)
    · rintro ((h | h) | h)
      · exact .inl (.inl h)
      · exact .inr h
      · exact .inl (.inr h)
  · rcases List.mem_append.1 he with he | he
    · exact ⟨fun h => Int.lt_trans ((h3 e he).1 hi) (pw_lt hX h), (h3 e he).2⟩
    · simp at he; subst he
      exact ⟨fun h => pw_lt hX h, hk⟩
theorem OrSt.both {xs ys : List Int} {i k : Nat} {l : List Int} (hX : xs.Pairwise (· < ·)) (hY : ys.Pairwise (· < ·)) (h : OrSt xs ys i k l) (hi : i < xs.length) (hk : k < ys.length) (he9 : xs[i] = ys[k]) : OrSt xs ys (i + 1) (k + 1) (l ++ [xs[i]]) := by
  obtain ⟨h1, h2, h3⟩ := h
  refine ⟨pw_snoc h1 (fun e he => (h3 e he).1 hi), fun e => ?_, fun e he => ?_⟩
  · rw [List.mem_append, h2, take_snoc xs i hi, take_snoc ys k hk, List.mem_append, List.mem_append, ← he9]
    constructor
    · rintro ((h | h) | h)
      · exact .inl (.inl h)
      · exact .inr (.inl h)
      · exact .inl (.inr h)
    · rintro ((h | h) | (h | h))
      · exact .inl (.inl h)
      · exact .inr h
      · exact .inl (.inr h)
      · exact .inr h
  · rcases List.mem_append.1 he with he | he
    · exact ⟨fun h => Int.lt_trans ((h3 e he).1 hi) (pw_lt hX h), fun h => Int.lt_trans ((h3 e he).2 hk) (pw_lt hY h)⟩
    · simp at he; subst he
      exact ⟨fun h => pw_lt hX h, fun h => by rw [he9]; exact pw_lt hY h⟩
theorem OrSt.y {xs ys : List Int} {i k : Nat} {l : List Int} (hY : ys.Pairwise (· < ·)) (h : OrSt xs ys i k l) (hk : k < ys.length) (hi : ∀ h : i < xs.length, ys[k] < xs[i]) : OrSt xs ys i (k + 1) (l ++ [ys[k]]) := by
  obtain ⟨h1, h2, h3⟩ := h
  refine ⟨pw_snoc h1 (fun e he => (h3 e he).2 hk), fun e => ?_, fun e he => ?_⟩
  · rw [List.mem_append, h2, take_snoc ys k hk, List.mem_append]
    constructor
    · rintro ((h | h) | h)
      · exact .inl h
      · exact .inr (.inl h)
      · exact .inr (.inr h)
    · rintro (h | (h | h))
      · exact .inl (.inl h)
      · exact .inl (.inr h)
      · exact .inr h
  · rcases List.mem_append.1 he with he | he
    · exact ⟨(h3 e he).1, fun h => Int.lt_trans ((h3 e he).2 hk) (pw_lt hY h)⟩
    · simp at he; subst he
      exact ⟨hi, fun h => pw_lt hY h⟩
set_option maxRecDepth 100000 in
set_option maxHeartbeats 4000000 in
theorem ror_any (AX : Option Addr) (nX cX : Nat) (X : List (Int × Int)) (AY : Option Addr) (nY cY : Nat) (Y : List (Int × Int)) (w : World) (hrX : Row w AX (cellsP X)) (hzX : nX = X.length) (hrY : Row w AY (cellsP Y)) (hzY : nY = Y.length)
    (hX : rightB (-1) X = true) (hY : rightB (-1) Y = true) :
    Calls Try.prog 31 #[.slice AX nX cX, .slice AY nY cY] w (RBothPost TO w X Y) := by
  obtain ⟨i0, hi0, hz0, hz1, hz2⟩ := info_parts Try.info3
  have hlX := right_length hX
  have hlY := right_length hY
  have hshx := listL_short hX
  have hshy := listL_short hY
  subst hzX hzY
  have HRX := Lib.hid hrX
  have HRY := Lib.hid hrY
  have HTX := Lib.hid hX
  have HTY := Lib.hid hY
  clear hrX hrY hX hY
  go_enter Try.func31, Try.ntmps31
  go_wp2_with fail
  refine (rlist_any AX X.length cX X _ HRX.out rfl (by omega) HTX.out).mono ?_
  rintro e w1 ⟨Al, cl, rfl, hrl, hB1⟩
  obtain ⟨xs, hxs⟩ : ∃ xs, xs = listL X := ⟨_, rfl⟩
  obtain ⟨nx, hnx⟩ : ∃ nx, nx = xs.length := ⟨_, rfl⟩
  rw [← hxs] at hrl hshx ⊢
  rw [← hnx] at hshx ⊢
  have HXS := Lib.hid hxs
  have HNX := Lib.hid hnx
  have HRL := Lib.hid hrl
  replace HRY := Lib.hid (HRY.out.keep (Nat.le_refl _) hB1)
  have HB1 := Lib.hid hB1
  clear hxs hnx hrl hB1 HRX
  go_wp2_with fail
  refine (rlist_any AY Y.length cY Y _ HRY.out rfl (by omega) HTY.out).mono ?_
  rintro e w2 ⟨Am, cm, rfl, hrm, hB2⟩
  obtain ⟨ys, hys⟩ : ∃ ys, ys = listL Y := ⟨_, rfl⟩
  obtain ⟨ny, hny⟩ : ∃ ny, ny = ys.length := ⟨_, rfl⟩
  rw [← hys] at hrm hshy ⊢
  rw [← hny] at hshy ⊢
  have HYS := Lib.hid hys
  have HNY := Lib.hid hny
  have HRM := Lib.hid hrm
  replace HRL := Lib.hid (HRL.out.keep (Nat.le_refl _) hB2)
  replace HB1 := Lib.hid (bthen HB1.out hB2)
  have HXX := Lib.hid (show xs.Pairwise (· < ·) by rw [HXS.out]; exact (listL_pair HTX.out).1)
  have HYY := Lib.hid (show ys.Pairwise (· < ·) by rw [hys]; exact (listL_pair HTY.out).1)
  clear hys hny hrm hB2 HRY
  go_wp2_with fail
  go_loopw [7, 8, 9] (fun v a b wr => ∃ (i k m : Nat) (l : List Int), i ≤ nx ∧ k ≤ ny ∧ m ≤ i + k ∧ a = .int .i64 i ∧ b = .int .i64 k ∧ Hid (OrSt xs ys i k l) ∧ Hid (m = l.length) ∧ Hid (wr.ownsRow w2.heap.size 3 1 v m (l.map (Value.int .i64))) ∧ Hid (Below w2.heap.size w2 wr)) (fun _ a b _ => (nx - (intOf a).toNat) + (ny - (intOf b).toNat))
  case atStart => exact ⟨0, 0, 0, [], by omega, by omega, by omega, rfl, rfl, Lib.hid (OrSt.zero _ _), Lib.hid rfl, Lib.hid (World.ownsRow_nil _ _ _ _), Lib.hid (Below.refl _ _)⟩
  case round =>
    obtain ⟨i, k, m, l, hi, hk, hm, rfl, rfl, HST, HM, HO, HB⟩ := hrel
    have hi0' : (0 : Int) ≤ (i : Int) := by omega
    have hk0' : (0 : Int) ≤ (k : Int) := by omega
    rcases Nat.lt_or_ge i nx with hin | hin
    · have hix : i < xs.length := by have := HNX.out; omega
      obtain ⟨bx, ox, hAx, cx0⟩ := (HRL.out.keep (Nat.le_refl _) HB.out).cell hix
      obtain ⟨x, hx⟩ : ∃ x, x = xs[i] := ⟨_, rfl⟩
      rw [← hx] at cx0
      have hin1 : (i : Int) < (nx : Int) := by omega
      have hin2 : decide ((i : Int) < (nx : Int)) = true := by simp; omega
      have hin3 : decide (i < nx) = true := by simp; omega
      rcases Nat.lt_or_ge k ny with hkn | hkn
      · have hky : k < ys.length := by have := HNY.out; omega
        obtain ⟨by_, oy, hAy, cy0⟩ := (HRM.out.keep (Nat.le_refl _) HB.out).cell hky
        obtain ⟨y, hy⟩ : ∃ y, y = ys[k] := ⟨_, rfl⟩
        rw [← hy] at cy0
        have hkn1 : (k : Int) < (ny : Int) := by omega
        have hkn2 : decide ((k : Int) < (ny : Int)) = true := by simp; omega
        have hkn3 : decide (k < ny) = true := by simp; omega
        have hke : ((k : Int) == (ny : Int)) = false := by simp; omega
        have hke2 : (k == ny) = false := by simp; omega
        rcases Int.lt_trichotomy x y with hxy | hxy | hxy
        · have HST2 := Lib.hid (show OrSt xs ys (i + 1) k (l ++ [x]) by rw [hx]; exact HST.out.x HXX.out hix (fun h => by rw [← hx, ← hy]; exact hxy))
          have hle : decide (x ≤ y) = true := by simp; omega
          have hne : (x == y) = false := by simp; omega
          clear hx hy hxy hix hky
          subst hAx hAy
          go_wp2_with fail
          go_quiet (fail)
          obtain ⟨wd, hwd⟩ : ∃ wd, wd = wr.drewN nq := ⟨_, rfl⟩
          replace HO := Lib.hid (show wd.ownsRow w2.heap.size 3 1 _ m (l.map (Value.int .i64)) by rw [hwd]; exact HO.out)
          replace HB := Lib.hid (show Below w2.heap.size w2 wd by rw [hwd]; exact below_drewN HB.out _)
          have hcx : wd.cell? ⟨bx, ox + i, none⟩ = some (.int .i64 x) := by rw [hwd]; exact cx0
          have hcy : wd.cell? ⟨by_, oy + k, none⟩ = some (.int .i64 y) := by rw [hwd]; exact cy0
          rw [← hwd]
          clear hwd cx0 cy0
          go_wp2_with fail
          go_quiet (fail)
          obtain ⟨we, hwe⟩ : ∃ we, we = wd.drewN nq := ⟨_, rfl⟩
          replace HO := Lib.hid (show we.ownsRow w2.heap.size 3 1 _ m (l.map (Value.int .i64)) by rw [hwe]; exact HO.out)
          replace HB := Lib.hid (show Below w2.heap.size w2 we by rw [hwe]; exact below_drewN HB.out _)
          have hcx2 : we.cell? ⟨bx, ox + i, none⟩ = some (.int .i64 x) := by rw [hwe]; exact hcx
          rw [← hwe]
          clear hwe hcx hcy
          have hown := HO.out
          go_wp2_with (at_builtin; refine wpList_append_own _ rfl _ _ 22 rfl w2.heap.size 3 i0 (.int .i64 0) 1 8 Try.underlying22 hi0 hz0 hz1 hz2 rfl (by decide) _ _ _ rfl (hown.alloc _) ⟨we.heap.size, 0, none⟩ 1 1 [.int .i64 x] rfl rfl ?c1 ?c2 ?c3 ?c4 ?c5 ?_)
          case c1 => intro j u hj; match j, hj with | 0, hj => simp at hj; subst hj; simp [Addr.add]
          case c2 => intro u hu; simp at hu; subst hu; rfl
          case c3 => unfold maxLen; omega
          case c4 => omega
          case c5 => have := HB.out.size; simp; omega
          intro v' w3 hown' hgrow _
          have HB3 := Lib.hid (show Below w2.heap.size w2 w3 from (HB.out.alloc HB.out.size _).grown hgrow (by have := HB.out.size; simp; omega) (fun k hk => (hown.lt k hk).1))
          have HO3 := Lib.hid (show w3.ownsRow w2.heap.size 3 1 v' (m + 1) ((l ++ [x]).map (Value.int .i64)) by simpa using hown')
          have HM3 := Lib.hid (show m + 1 = (l ++ [x]).length by rw [List.length_append, ← HM.out]; rfl)
          clear hown' hgrow hown
          go_wp2
          go_roundw
          case rel => exact ⟨i + 1, k, m + 1, l ++ [x], by omega, by omega, by omega, by first | rfl | go_num, by first | rfl | go_num, HST2, HM3, HO3, HB3⟩
          case measure => simp [intOf]; omega
        · have HST2 := Lib.hid (show OrSt xs ys (i + 1) (k + 1) (l ++ [x]) by rw [hx]; exact HST.out.both HXX.out HYY.out hix hky (by rw [← hx, ← hy]; exact hxy))
          subst hxy
          have hle : decide (x ≤ x) = true := by simp
          have hne : (x == x) = true := by simp
          clear hx hy hix hky
          subst hAx hAy
          go_wp2_with fail
          go_quiet (fail)
          obtain ⟨wd, hwd⟩ : ∃ wd, wd = wr.drewN nq := ⟨_, rfl⟩
          replace HO := Lib.hid (show wd.ownsRow w2.heap.size 3 1 _ m (l.map (Value.int .i64)) by rw [hwd]; exact HO.out)
          replace HB := Lib.hid (show Below w2.heap.size w2 wd by rw [hwd]; exact below_drewN HB.out _)
          have hcx : wd.cell? ⟨bx, ox + i, none⟩ = some (.int .i64 x) := by rw [hwd]; exact cx0
          have hcy : wd.cell? ⟨by_, oy + k, none⟩ = some (.int .i64 x) := by rw [hwd]; exact cy0
          rw [← hwd]
          clear hwd cx0 cy0
          go_wp2_with fail
          go_quiet (fail)
          obtain ⟨we, hwe⟩ : ∃ we, we = wd.drewN nq := ⟨_, rfl⟩
          replace HO := Lib.hid (show we.ownsRow w2.heap.size 3 1 _ m (l.map (Value.int .i64)) by rw [hwe]; exact HO.out)
          replace HB := Lib.hid (show Below w2.heap.size w2 we by rw [hwe]; exact below_drewN HB.out _)
          have hcx2 : we.cell? ⟨bx, ox + i, none⟩ = some (.int .i64 x) := by rw [hwe]; exact hcx
          rw [← hwe]
          clear hwe hcx hcy
          have hown := HO.out
          go_wp2_with (at_builtin; refine wpList_append_own _ rfl _ _ 22 rfl w2.heap.size 3 i0 (.int .i64 0) 1 8 Try.underlying22 hi0 hz0 hz1 hz2 rfl (by decide) _ _ _ rfl (hown.alloc _) ⟨we.heap.size, 0, none⟩ 1 1 [.int .i64 x] rfl rfl ?c1 ?c2 ?c3 ?c4 ?c5 ?_)
          case c1 => intro j u hj; match j, hj with | 0, hj => simp at hj; subst hj; simp [Addr.add]
          case c2 => intro u hu; simp at hu; subst hu; rfl
          case c3 => unfold maxLen; omega
          case c4 => omega
          case c5 => have := HB.out.size; simp; omega
          intro v' w3 hown' hgrow _
          have HB3 := Lib.hid (show Below w2.heap.size w2 w3 from (HB.out.alloc HB.out.size _).grown hgrow (by have := HB.out.size; simp; omega) (fun k hk => (hown.lt k hk).1))
          have HO3 := Lib.hid (show w3.ownsRow w2.heap.size 3 1 v' (m + 1) ((l ++ [x]).map (Value.int .i64)) by simpa using hown')
          have HM3 := Lib.hid (show m + 1 = (l ++ [x]).length by rw [List.length_append, ← HM.out]; rfl)
          clear hown' hgrow hown
          go_wp2
          go_roundw
          case rel => exact ⟨i + 1, k + 1, m + 1, l ++ [x], by omega, by omega, by omega, by first | rfl | go_num, by first | rfl | go_num, HST2, HM3, HO3, HB3⟩
          case measure => simp [intOf]; omega
        · have HST2 := Lib.hid (show OrSt xs ys i (k + 1) (l ++ [y]) by rw [hy]; exact HST.out.y HYY.out hky (fun h => by rw [← hx, ← hy]; exact hxy))
          have hle : decide (x ≤ y) = false := by simp; omega
          clear hx hy hxy hix hky
          subst hAx hAy
          go_wp2_with fail
          go_quiet (fail)
          obtain ⟨wd, hwd⟩ : ∃ wd, wd = wr.drewN nq := ⟨_, rfl⟩
          replace HO := Lib.hid (show wd.ownsRow w2.heap.size 3 1 _ m (l.map (Value.int .i64)) by rw [hwd]; exact HO.out)
          replace HB := Lib.hid (show Below w2.heap.size w2 wd by rw [hwd]; exact below_drewN HB.out _)
          have hcy : wd.cell? ⟨by_, oy + k, none⟩ = some (.int .i64 y) := by rw [hwd]; exact cy0
          rw [← hwd]
          clear hwd cx0 cy0
          have hown := HO.out
          go_wp2_with (at_builtin; refine wpList_append_own _ rfl _ _ 22 rfl w2.heap.size 3 i0 (.int .i64 0) 1 8 Try.underlying22 hi0 hz0 hz1 hz2 rfl (by decide) _ _ _ rfl (hown.alloc _) ⟨wd.heap.size, 0, none⟩ 1 1 [.int .i64 y] rfl rfl ?c1 ?c2 ?c3 ?c4 ?c5 ?_)
          case c1 => intro j u hj; match j, hj with | 0, hj => simp at hj; subst hj; simp [Addr.add]
          case c2 => intro u hu; simp at hu; subst hu; rfl
          case c3 => unfold maxLen; omega
          case c4 => omega
          case c5 => have := HB.out.size; simp; omega
          intro v' w3 hown' hgrow _
          have HB3 := Lib.hid (show Below w2.heap.size w2 w3 from (HB.out.alloc HB.out.size _).grown hgrow (by have := HB.out.size; simp; omega) (fun k hk => (hown.lt k hk).1))
          have HO3 := Lib.hid (show w3.ownsRow w2.heap.size 3 1 v' (m + 1) ((l ++ [y]).map (Value.int .i64)) by simpa using hown')
          have HM3 := Lib.hid (show m + 1 = (l ++ [y]).length by rw [List.length_append, ← HM.out]; rfl)
          clear hown' hgrow hown
          go_wp2
          go_roundw
          case rel => exact ⟨i, k + 1, m + 1, l ++ [y], by omega, by omega, by omega, by first | rfl | go_num, by first | rfl | go_num, HST2, HM3, HO3, HB3⟩
          case measure => simp [intOf]; omega
      · obtain rfl : k = ny := by omega
        have HST2 := Lib.hid (show OrSt xs ys (i + 1) k (l ++ [x]) by rw [hx]; exact HST.out.x HXX.out hix (fun h => by have := HNY.out; omega))
        have hke : ((k : Int) == (k : Int)) = true := by simp
        have hkn2 : decide ((k : Int) < (k : Int)) = false := by simp
        clear hx hix
        subst hAx
        go_wp2_with fail
        go_quiet (fail)
        obtain ⟨wd, hwd⟩ : ∃ wd, wd = wr.drewN nq := ⟨_, rfl⟩
        replace HO := Lib.hid (show wd.ownsRow w2.heap.size 3 1 _ m (l.map (Value.int .i64)) by rw [hwd]; exact HO.out)
        replace HB := Lib.hid (show Below w2.heap.size w2 wd by rw [hwd]; exact below_drewN HB.out _)
        have hcx : wd.cell? ⟨bx, ox + i, none⟩ = some (.int .i64 x) := by rw [hwd]; exact cx0
        rw [← hwd]
        clear hwd cx0
        go_wp2_with fail
        go_quiet (fail)
        obtain ⟨we, hwe⟩ : ∃ we, we = wd.drewN nq := ⟨_, rfl⟩
        replace HO := Lib.hid (show we.ownsRow w2.heap.size 3 1 _ m (l.map (Value.int .i64)) by rw [hwe]; exact HO.out)
        replace HB := Lib.hid (show Below w2.heap.size w2 we by rw [hwe]; exact below_drewN HB.out _)
        have hcx2 : we.cell? ⟨bx, ox + i, none⟩ = some (.int .i64 x) := by rw [hwe]; exact hcx
        rw [← hwe]
        clear hwe hcx
        have hown := HO.out
        go_wp2_with (at_builtin; refine wpList_append_own _ rfl _ _ 22 rfl w2.heap.size 3 i0 (.int .i64 0) 1 8 Try.underlying22 hi0 hz0 hz1 hz2 rfl (by decide) _ _ _ rfl (hown.alloc _) ⟨we.heap.size, 0, none⟩ 1 1 [.int .i64 x] rfl rfl ?c1 ?c2 ?c3 ?c4 ?c5 ?_)
        case c1 => intro j u hj; match j, hj with | 0, hj => simp at hj; subst hj; simp [Addr.add]
        case c2 => intro u hu; simp at hu; subst hu; rfl
        case c3 => unfold maxLen; omega
        case c4 => omega
        case c5 => have := HB.out.size; simp; omega
        intro v' w3 hown' hgrow _
        have HB3 := Lib.hid (show Below w2.heap.size w2 w3 from (HB.out.alloc HB.out.size _).grown hgrow (by have := HB.out.size; simp; omega) (fun k hk => (hown.lt k hk).1))
        have HO3 := Lib.hid (show w3.ownsRow w2.heap.size 3 1 v' (m + 1) ((l ++ [x]).map (Value.int .i64)) by simpa using hown')
        have HM3 := Lib.hid (show m + 1 = (l ++ [x]).length by rw [List.length_append, ← HM.out]; rfl)
        clear hown' hgrow hown
        go_wp2
        go_roundw
        case rel => exact ⟨i + 1, k, m + 1, l ++ [x], by omega, by omega, by omega, by first | rfl | go_num, by first | rfl | go_num, HST2, HM3, HO3, HB3⟩
        case measure => simp [intOf]; omega
    · obtain rfl : i = nx := by omega
      rcases Nat.lt_or_ge k ny with hkn | hkn
      · have hky : k < ys.length := by have := HNY.out; omega
        obtain ⟨by_, oy, hAy, cy0⟩ := (HRM.out.keep (Nat.le_refl _) HB.out).cell hky
        obtain ⟨y, hy⟩ : ∃ y, y = ys[k] := ⟨_, rfl⟩
        rw [← hy] at cy0
        have hkn1 : (k : Int) < (ny : Int) := by omega
        have hke : ((k : Int) == (ny : Int)) = false := by simp; omega
        have hke2 : (k == ny) = false := by simp; omega
        have HST2 := Lib.hid (show OrSt xs ys i (k + 1) (l ++ [y]) by rw [hy]; exact HST.out.y HYY.out hky (fun h => by have := HNX.out; omega))
        have hin2 : decide ((i : Int) < (i : Int)) = false := by simp
        clear hy hky
        subst hAy
        go_wp2_with fail
        go_quiet (fail)
        obtain ⟨wd, hwd⟩ : ∃ wd, wd = wr.drewN nq := ⟨_, rfl⟩
        replace HO := Lib.hid (show wd.ownsRow w2.heap.size 3 1 _ m (l.map (Value.int .i64)) by rw [hwd]; exact HO.out)
        replace HB := Lib.hid (show Below w2.heap.size w2 wd by rw [hwd]; exact below_drewN HB.out _)
        have hcy : wd.cell? ⟨by_, oy + k, none⟩ = some (.int .i64 y) := by rw [hwd]; exact cy0
        rw [← hwd]
        clear hwd cy0
        have hown := HO.out
        go_wp2_with (at_builtin; refine wpList_append_own _ rfl _ _ 22 rfl w2.heap.size 3 i0 (.int .i64 0) 1 8 Try.underlying22 hi0 hz0 hz1 hz2 rfl (by decide) _ _ _ rfl (hown.alloc _) ⟨wd.heap.size, 0, none⟩ 1 1 [.int .i64 y] rfl rfl ?c1 ?c2 ?c3 ?c4 ?c5 ?_)
        case c1 => intro j u hj; match j, hj with | 0, hj => simp at hj; subst hj; simp [Addr.add]
        case c2 => intro u hu; simp at hu; subst hu; rfl
        case c3 => unfold maxLen; omega
        case c4 => omega
        case c5 => have := HB.out.size; simp; omega
        intro v' w3 hown' hgrow _
        have HB3 := Lib.hid (show Below w2.heap.size w2 w3 from (HB.out.alloc HB.out.size _).grown hgrow (by have := HB.out.size; simp; omega) (fun k hk => (hown.lt k hk).1))
        have HO3 := Lib.hid (show w3.ownsRow w2.heap.size 3 1 v' (m + 1) ((l ++ [y]).map (Value.int .i64)) by simpa using hown')
        have HM3 := Lib.hid (show m + 1 = (l ++ [y]).length by rw [List.length_append, ← HM.out]; rfl)
        clear hown' hgrow hown
        go_wp2
        go_roundw
        case rel => exact ⟨i, k + 1, m + 1, l ++ [y], by omega, by omega, by omega, by first | rfl | go_num, by first | rfl | go_num, HST2, HM3, HO3, HB3⟩
        case measure => simp [intOf]; omega
      · obtain rfl : k = ny := by omega
        obtain ⟨A3, c3, rfl, hr3⟩ := ints_slice HO.out
        have HR3 := Lib.hid hr3
        have HMEM := Lib.hid (show ∀ e, e ∈ l ↔ e ∈ xs ∨ e ∈ ys from fun e => by
          rw [HST.out.2.1, List.take_of_length_le (by have := HNX.out; omega), List.take_of_length_le (by have := HNY.out; omega)])
        clear hr3
        go_wp2_with fail
        refine (rset_any A3 m c3 l _ HR3.out HM.out (by omega) (ris_of HST.out.1 (fun e he => by
          rcases (HMEM.out e).1 he with h | h
          · rw [HXS.out] at h; exact has_range HTX.out (mem_list.1 h)
          · rw [HYS.out] at h; exact has_range HTY.out (mem_list.1 h)))).mono ?_
        rintro e w4 ⟨L, A4, c4, rfl, hr4, ht4, hh4, hB4⟩
        have HR4 := Lib.hid hr4
        have HT4 := Lib.hid ht4
        have HH4 := Lib.hid (show ∀ x, hasB x L = TO (hasB x X) (hasB x Y) from fun x => by
          rw [hh4, Bool.eq_iff_iff, decide_eq_true_eq, HMEM.out, HXS.out, HYS.out, mem_list, mem_list]
          unfold TO; rw [Bool.or_eq_true])
        have HB4 := Lib.hid (bthen HB1.out (HB.out.trans (hB4.mono HB.out.size)))
        clear hr4 ht4 hh4 hB4
        go_wp2_with fail
        go_ret
        exact ⟨L, A4, c4, rfl, HR4.out, HT4.out, HH4.out, HB4.out⟩
end Go.Proofs.Ytohdkidfhohmlaa
