/- symMergeCmpFunc, whole. insertionSortCmpFunc on a stretch. stableCmpFunc, whole. SortStableFunc of rows, as many as there are. Fold of many rows; of none. Fold of no rows. RowsFold. -/
import Derived.Test.YtmmeekmiildliaaGreatDoorSX
import Derived.Deep.DeepCutAuto
import Derived.Test.YtmmeekmiildliaaGreatDoorML
import Derived.Test.YtmmeekmiildliaaGreatDoorSM
import Derived.Test.YtmmeekmiildliaaGreatDoorMM
namespace Go.Proofs.YtmmeekmiildliaaGreatDoor
open Go.RowKit Go.Shelf
open Go.Sort hiding Below
set_option linter.unusedSimpArgs false
set_option linter.unusedVariables false
set_option maxRecDepth 1000000 in
set_option maxHeartbeats 32000000 in
theorem sym_any (k4 : Nat) (hk4 : k4 = 4) (w0 w : World) (blk off cap n : Nat) (d0 : Array (GZ w0)) (R : RowK (encG w0) k4 w blk off d0) (hC : CmpLays Tryz.prog 41 #[] (encG w0) k4 (cfG w0) blk off d0.size w) (hs0 : d0.size = n) (hn : n ≤ 1000000) :
    ∀ (N : Nat) (W : World) (a b m : Nat) (az bz mz : Int) (P A B S : List (GZ w0)), A.length + B.length ≤ N → SwSt k4 w0 w blk off (P ++ (A ++ (B ++ S))) W → (P ++ (A ++ (B ++ S))).length = n → P.length = a → a + A.length = m → m + B.length = b → 1 ≤ A.length → 1 ≤ B.length → SortedF (fG w0) A → SortedF (fG w0) B → az = a → mz = m → bz = b →
    Calls Tryz.prog 114 #[.slice (some ⟨blk, off, none⟩) n cap, .int .i64 az, .int .i64 mz, .int .i64 bz, .func (.func 41) #[] #[]] W (SymPost k4 w0 w blk off P A B S) := by
  intro N
  induction N with
  | zero => intro W a b m az bz mz P A B S hN _ _ _ _ _ h1 _ _ _ _ _ _; omega
  | succ N ih =>
    intro W a b m az bz mz P A B S hN hW hL hP hA hB hA1 hB1 hAs hBs haz hmz hbz
    subst haz hmz hbz
    by_cases hl1 : A.length = 1
    · obtain ⟨x, rfl⟩ := List.length_eq_one_iff.1 hl1
      exact sym_first k4 hk4 w0 w W blk off cap n a b m d0 R hC hs0 hn P B S x hW hL hP (by simpa using hA) hB hB1 hBs
    by_cases hl2 : B.length = 1
    · obtain ⟨y, rfl⟩ := List.length_eq_one_iff.1 hl2
      exact sym_last k4 hk4 w0 w W blk off cap n a b m d0 R hC hs0 hn P A S y hW hL hP hA (by simpa using hB) (by omega) hAs
    have HK4 := Lib.hid hk4
    obtain ⟨dk, hdl, hsw⟩ := hW
    have hds : dk.size = d0.size := by rw [len_list hdl, hL, hs0]
    have hzA : ∀ i (h : i < A.length), dk[a + i]! = A[i] := fun i h => at_app (P := P) (A := A) (S := B ++ S) hdl hP i h
    have hzB : ∀ i (h : i < B.length), dk[m + i]! = B[i] := fun i h => at_app (P := P ++ A) (A := B) (S := S) (d := dk) (a := m) (by rw [hdl]; simp) (by simp; omega) i h
    have hbn : b ≤ n := by simp at hL; omega
    obtain ⟨mid, hmid⟩ : ∃ mid, mid = (a + b) / 2 := ⟨_, rfl⟩
    obtain ⟨s0, hs0'⟩ : ∃ s0, s0 = if mid < m then mid + m - b else a := ⟨_, rfl⟩
    obtain ⟨r0, hr0'⟩ : ∃ r0, r0 = if mid < m then mid else m := ⟨_, rfl⟩
    obtain ⟨nn, hnn⟩ : ∃ nn, nn = mid + m := ⟨_, rfl⟩
    obtain ⟨p, hp⟩ : ∃ p, p = nn - 1 := ⟨_, rfl⟩
    have hm1 : a < mid := by omega
    have hm2 : mid < b := by omega
    have hsr : s0 ≤ r0 := by rw [hs0', hr0']; split <;> omega
    have hs0a : a ≤ s0 := by rw [hs0']; split <;> omega
    have hr0m : r0 ≤ m := by rw [hr0']; split <;> omega
    have hr0d : r0 ≤ mid := by rw [hr0']; split <;> omega
    have hs0n : nn ≤ b + s0 := by rw [hs0']; split <;> omega
    have HZA := Lib.hid hzA
    have HZB := Lib.hid hzB
    have HDL := Lib.hid hdl
    have HDS := Lib.hid hds
    have HSW := Lib.hid hsw
    have HCM := Lib.hid hC
    have HAS := Lib.hid hAs
    have HBS := Lib.hid hBs
    have HLN := Lib.hid hL
    have HPL := Lib.hid hP
    have HS0 := Lib.hid hs0
    have HSD := Lib.hid hs0'
    have HRD := Lib.hid hr0'
    have HIH := Lib.hid ih
    have HMID := Lib.hid hmid
    have HNN := Lib.hid (And.intro hnn hp)
    have HNL := Lib.hid hN
    have hal : a + A.length = m := hA
    have hbl : m + B.length = b := hB
    have hA2 : 2 ≤ A.length := by omega
    have hB2 : 2 ≤ B.length := by omega
    have em : ((a : Int) + (b : Int)) / 2 = (mid : Int) := by omega
    have en : (mid : Int) + (m : Int) = (nn : Int) := by omega
    have ep : (nn : Int) - 1 = (p : Int) := by omega
    have hnb : nn ≤ 2 * b := by omega
    have hpn : p + 1 = nn := by omega
    have q1 : ¬ (m : Int) - (a : Int) = 1 := by omega
    have q2 : ((m : Int) - (a : Int) == 1) = false := by simp; omega
    have q3 : ¬ (b : Int) - (m : Int) = 1 := by omega
    have q4 : ((b : Int) - (m : Int) == 1) = false := by simp; omega
    clear hdl hsw hds hzA hzB hC hAs hBs hL hP hs0 hA hB hl1 hl2 ih hmid hnn hp hN hk4 hs0' hr0'
    go_enter Tryz.func114, Tryz.ntmps114
    go_upto_if 140 with fail
    go_cut [20, 21] (fun s20 s21 wx => s20 = .int .i64 s0 ∧ s21 = .int .i64 r0 ∧ wx = W)
    case first =>
      by_cases hmm : mid < m
      · have hmz : (mid : Int) < (m : Int) := by omega
        go_wp2_with fail
        go_meet
        case rel =>
          have e1 := HSD.out
          have e2 := HRD.out
          rw [if_pos hmm] at e1 e2
          have e3 := HNN.out.1
          exact ⟨by first | rfl | go_num | (congr 1; omega), by rw [e2], rfl⟩
      · have hmz : ¬ (mid : Int) < (m : Int) := by omega
        go_wp2_with fail
        go_meet
        case rel =>
          have e1 := HSD.out
          have e2 := HRD.out
          rw [if_neg hmm] at e1 e2
          exact ⟨by rw [e1], by rw [e2], rfl⟩
    case rest =>
    obtain ⟨rfl, rfl, rfl⟩ := hcut
    go_wp2_with fail
    go_loopw [20, 21] (fun vi vj wr => ∃ s r : Nat, vi = .int .i64 s ∧ vj = .int .i64 r ∧ s0 ≤ s ∧ s ≤ r ∧ r ≤ r0 ∧ Hid (Sy (fG w0) (fun i => dk[i]!) s0 r0 p s r) ∧ Hid (SWK (encG w0) k4 w blk off dk wr)) (fun vi vj _ => (intOf vj).toNat - (intOf vi).toNat)
    case atStart => exact ⟨s0, r0, rfl, rfl, Nat.le_refl _, hsr, Nat.le_refl _, Lib.hid (Sy.start _ hsr), HSW⟩
    case round =>
      clear HSW
      obtain ⟨s, r, rfl, rfl, hss, hsr2, hrr, HSY, HSW⟩ := hrel
      by_cases hlt : s < r
      · have hltz : (s : Int) < (r : Int) := by omega
        obtain ⟨c, hc0⟩ : ∃ c, c = (s + r) / 2 := ⟨_, rfl⟩
        have ec : ((s : Int) + (r : Int)) / 2 = (c : Int) := by omega
        have hsc : s ≤ c := by omega
        have hcr : c < r := by omega
        obtain ⟨q, hq0⟩ : ∃ q, q = p - c := ⟨_, rfl⟩
        have hqz : (p : Int) - (c : Int) = (q : Int) := by omega
        have hqn : q < n := by omega
        have HQ := Lib.hid hq0
        have tq : ((q : Nat) : Int).toNat = q := by omega
        have pq : (0 : Int) ≤ (q : Int) := by omega
        have bq : (q : Int) < (n : Int) := by omega
        have wq : IntKind.i64.wrap (q : Int) = (q : Int) := by rw [IntKind.wrap_i64]; omega
        have tc : ((c : Nat) : Int).toNat = c := by omega
        have pc : (0 : Int) ≤ (c : Int) := by omega
        have bc : (c : Int) < (n : Int) := by omega
        obtain ⟨xa, hxa⟩ : ∃ y, y = dk[q]! := ⟨_, rfl⟩
        obtain ⟨xb, hxb⟩ : ∃ y, y = dk[c]! := ⟨_, rfl⟩
        have HQA := Lib.hid hxa.symm
        have HQB := Lib.hid hxb.symm
        clear hxa hxb hc0 hq0
        by_cases hlv : cfG w0 xa xb < 0
        · as_aux_lemma =>
          have hd : decide (cfG w0 xa xb < 0) = true := decide_eq_true hlv
          have HN := Lib.hid (show Sy (fG w0) (fun i => dk[i]!) s0 r0 p s c from HSY.out.down hsc hcr (by show cmpV (fG w0 dk[p - c]!) (fG w0 dk[c]!) < 0; rw [← HQ.out, HQA.out, HQB.out]; exact hlv))
          have l1 := HSW.out.ld R HDS.out Tryz.prog q (by rw [HDS.out, HS0.out]; omega)
          have l2 := HSW.out.ld R HDS.out Tryz.prog c (by rw [HDS.out, HS0.out]; omega)
          rw [HQA.out] at l1
          rw [HQB.out] at l2
          have hc := HSW.out.cmp HCM.out HDS.out xa xb
          have eg : ∀ args w, (callFunc 41 args).run Tryz.prog w = .ok (.enter 41 args) w := enters_of Tryz.func41 (by kernel_rfl) rfl
          have mixed : Tryz.prog.follows .mixedOrders = true := by kernel_rfl
          have u41 := run_underlying Tryz.underlying46
          have t3 := Tryz.underlying3; have a3 := fun w => Tryz.isAgg3 w; have z3 := fun w => Tryz.sizeOf3 w
          have t4 := Tryz.underlying4; have a4 := fun w => Tryz.isAgg4 w; have z4 := fun w => Tryz.sizeOf4 w
          have t41 := Tryz.underlying46; have a41 := fun w => Tryz.isAgg46 w; have z41 := fun w => Tryz.sizeOf46 w
          have t45 := Tryz.underlying79; have a45 := fun w => Tryz.isAgg79 w; have z45 := fun w => Tryz.sizeOf79 w
          have aE : ∀ w, (isAgg 59).run Tryz.prog w = .ok true w := fun w => Tryz.isAgg59 w
          have zE : ∀ w, (Go.sizeOf 59).run Tryz.prog w = .ok k4 w := fun w => by rw [HK4.out]; exact Tryz.sizeOf59 w
          have n1 : (encG w0 xa).length = k4 := R.hk _
          have n2 : (encG w0 xb).length = k4 := R.hk _
          have HX1 := Lib.hid n1
          clear n1 n2
          go_wp2_with fail
          generalize Tryz.prog = P at mixed u41 t3 a3 z3 t4 a4 z4 t41 a41 z41 t45 a45 z45 aE zE eg hc l1 l2 ⊢
          go_quiet_grown (first | (go_at_fn 41; refine Calls.grown_of (hc _ _)))
          have SU2 := Lib.hid (HSW.out.grown nq osq)
          clear mixed u41 t3 a3 z3 t4 a4 z4 t41 a41 z41 t45 a45 z45 aE zE eg hc l1 l2 HSW
          generalize grow (wr.drewN nq) osq = wu2 at SU2 ⊢
          clear nq osq
          go_wp2
          go_roundw
          case rel => exact ⟨s, c, rfl, rfl, hss, hsc, by omega, HN, SU2⟩
          case measure => simp [intOf]; omega
        · as_aux_lemma =>
          have hd : decide (cfG w0 xa xb < 0) = false := decide_eq_false hlv
          have HN := Lib.hid (show Sy (fG w0) (fun i => dk[i]!) s0 r0 p (c + 1) r from HSY.out.up hsc hcr (by show ¬ cmpV (fG w0 dk[p - c]!) (fG w0 dk[c]!) < 0; rw [← HQ.out, HQA.out, HQB.out]; exact hlv))
          have l1 := HSW.out.ld R HDS.out Tryz.prog q (by rw [HDS.out, HS0.out]; omega)
          have l2 := HSW.out.ld R HDS.out Tryz.prog c (by rw [HDS.out, HS0.out]; omega)
          rw [HQA.out] at l1
          rw [HQB.out] at l2
          have hc := HSW.out.cmp HCM.out HDS.out xa xb
          have eg : ∀ args w, (callFunc 41 args).run Tryz.prog w = .ok (.enter 41 args) w := enters_of Tryz.func41 (by kernel_rfl) rfl
          have mixed : Tryz.prog.follows .mixedOrders = true := by kernel_rfl
          have u41 := run_underlying Tryz.underlying46
          have t3 := Tryz.underlying3; have a3 := fun w => Tryz.isAgg3 w; have z3 := fun w => Tryz.sizeOf3 w
          have t4 := Tryz.underlying4; have a4 := fun w => Tryz.isAgg4 w; have z4 := fun w => Tryz.sizeOf4 w
          have t41 := Tryz.underlying46; have a41 := fun w => Tryz.isAgg46 w; have z41 := fun w => Tryz.sizeOf46 w
          have t45 := Tryz.underlying79; have a45 := fun w => Tryz.isAgg79 w; have z45 := fun w => Tryz.sizeOf79 w
          have aE : ∀ w, (isAgg 59).run Tryz.prog w = .ok true w := fun w => Tryz.isAgg59 w
          have zE : ∀ w, (Go.sizeOf 59).run Tryz.prog w = .ok k4 w := fun w => by rw [HK4.out]; exact Tryz.sizeOf59 w
          have n1 : (encG w0 xa).length = k4 := R.hk _
          have n2 : (encG w0 xb).length = k4 := R.hk _
          have HX1 := Lib.hid n1
          clear n1 n2
          go_wp2_with fail
          generalize Tryz.prog = P at mixed u41 t3 a3 z3 t4 a4 z4 t41 a41 z41 t45 a45 z45 aE zE eg hc l1 l2 ⊢
          go_quiet_grown (first | (go_at_fn 41; refine Calls.grown_of (hc _ _)))
          have SU2 := Lib.hid (HSW.out.grown nq osq)
          clear mixed u41 t3 a3 z3 t4 a4 z4 t41 a41 z41 t45 a45 z45 aE zE eg hc l1 l2 HSW
          generalize grow (wr.drewN nq) osq = wu2 at SU2 ⊢
          clear nq osq
          go_wp2
          go_roundw
          case rel => exact ⟨c + 1, r, by go_num, rfl, by omega, by omega, hrr, HN, SU2⟩
          case measure => simp [intOf]; omega
      · have hltz : ¬ (s : Int) < (r : Int) := by omega
        obtain rfl : s = r := by omega
        have hf := (show Sy (fG w0) (fun i => dk[i]!) s0 r0 (mid + m - 1) s s by
          have h1 := HNN.out.1
          have h2 := HNN.out.2
          rw [← h1, ← h2]; exact HSY.out).found HAS.out HBS.out hal hbl HMID.out (by omega) (by omega) HSD.out HRD.out HZA.out HZB.out
        rw [← HNN.out.1] at hf
        obtain ⟨f1, f2, f3, f4, f5, f6, f7⟩ := hf
        obtain ⟨ee, hee⟩ : ∃ ee, ee = nn - s := ⟨_, rfl⟩
        have eez : (nn : Int) - (s : Int) = (ee : Int) := by omega
        obtain ⟨A1, hA1'⟩ : ∃ A1, A1 = A.take (s - a) := ⟨_, rfl⟩
        obtain ⟨A2, hA2'⟩ : ∃ A2, A2 = A.drop (s - a) := ⟨_, rfl⟩
        obtain ⟨B1, hB1'⟩ : ∃ B1, B1 = B.take (mid - s) := ⟨_, rfl⟩
        obtain ⟨B2, hB2'⟩ : ∃ B2, B2 = B.drop (mid - s) := ⟨_, rfl⟩
        rw [← hB1', ← hA2'] at f6
        rw [← hA1', ← hB2'] at f7
        have eA : A1 ++ A2 = A := by rw [hA1', hA2']; exact List.take_append_drop _ _
        have eB : B1 ++ B2 = B := by rw [hB1', hB2']; exact List.take_append_drop _ _
        have hnm : nn = mid + m := HNN.out.1
        have g1 : A1.length = s - a := by rw [hA1']; simp; omega
        have g2 : A2.length = m - s := by rw [hA2']; simp; omega
        have g3 : B1.length = ee - m := by rw [hB1']; simp; omega
        have g4 : B2.length = b - ee := by rw [hB2']; simp; omega
        have HA12 := Lib.hid (show SortedF (fG w0) (A1 ++ A2) by rw [eA]; exact HAS.out)
        have HB12 := Lib.hid (show SortedF (fG w0) (B1 ++ B2) by rw [eB]; exact HBS.out)
        have hlen0 : (P ++ (A1 ++ (A2 ++ (B1 ++ (B2 ++ S))))).length = n := by
          rw [← HLN.out, ← eA, ← eB]; simp
        have hPa := HPL.out
        have hNN := HNL.out
        have hAB : A1.length + B1.length ≤ N ∧ A2.length + B2.length ≤ N := by omega
        -- the first step
        have HC0 := Lib.hid (show SwSt k4 w0 w blk off (P ++ (A1 ++ (A2 ++ (B1 ++ (B2 ++ S))))) wr from ⟨dk, by rw [HDL.out, ← eA, ← eB]; simp, HSW.out⟩)
        have HR1 := Lib.hid (show s < m → m < ee → Calls Tryz.prog 132 #[.slice (some ⟨blk, off, none⟩) n cap, .int .i64 s, .int .i64 m, .int .i64 ee, .func (.func 41) #[] #[]] wr (fun e W' => e = .returned (.tuple #[]) ∧ SwSt k4 w0 w blk off (P ++ (A1 ++ (B1 ++ (A2 ++ (B2 ++ S))))) W') from fun h1 h2 => by
          have := rotate_any k4 HK4.out w0 w wr blk off cap n s ee m s ee m d0 R HS0.out hn (P ++ A1) A2 B1 (B2 ++ S) (by rw [List.append_assoc]; exact HC0.out) (by rw [List.append_assoc]; exact hlen0) (by simp; omega) (by omega) (by omega) (by omega) (by omega) rfl rfl rfl
          rw [List.append_assoc] at this
          exact this)
        have HR1n := Lib.hid (show ¬ (s < m ∧ m < ee) → SwSt k4 w0 w blk off (P ++ (A1 ++ (B1 ++ (A2 ++ (B2 ++ S))))) wr from fun h => by
          rcases Nat.lt_or_ge s m with h1 | h1
          · have e : B1 = [] := List.eq_nil_of_length_eq_zero (by omega)
            have := HC0.out
            rw [e] at this ⊢
            exact this
          · have e : A2 = [] := List.eq_nil_of_length_eq_zero (by omega)
            have := HC0.out
            rw [e] at this ⊢
            exact this)
        have hlen1 : (P ++ (A1 ++ (B1 ++ (A2 ++ (B2 ++ S))))).length = n := by rw [← hlen0]; simp; omega
        have HR2 := Lib.hid (show ∀ W', SwSt k4 w0 w blk off (P ++ (A1 ++ (B1 ++ (A2 ++ (B2 ++ S))))) W' → a < s → s < mid → Calls Tryz.prog 114 #[.slice (some ⟨blk, off, none⟩) n cap, .int .i64 a, .int .i64 s, .int .i64 mid, .func (.func 41) #[] #[]] W' (SymPost k4 w0 w blk off P A1 B1 (A2 ++ (B2 ++ S))) from fun W' h h1 h2 =>
          HIH.out W' a mid s a mid s P A1 B1 (A2 ++ (B2 ++ S)) hAB.1 h hlen1 hPa (by omega) (by omega) (by omega) (by omega) HA12.out.left HB12.out.left rfl rfl rfl)
        have HR2n := Lib.hid (show ∀ W', SwSt k4 w0 w blk off (P ++ (A1 ++ (B1 ++ (A2 ++ (B2 ++ S))))) W' → ¬ (a < s ∧ s < mid) → ∃ M, SwSt k4 w0 w blk off (P ++ (M ++ (A2 ++ (B2 ++ S)))) W' ∧ SortedF (fG w0) M ∧ SameF (fG w0) (A1 ++ B1) M from fun W' h h1 => by
          refine ⟨A1 ++ B1, by rw [List.append_assoc]; exact h, ?_, SameF.refl _⟩
          rcases Nat.lt_or_ge a s with h2 | h2
          · have e : B1 = [] := List.eq_nil_of_length_eq_zero (by omega)
            rw [e, List.append_nil]; exact HA12.out.left
          · have e : A1 = [] := List.eq_nil_of_length_eq_zero (by omega)
            rw [e, List.nil_append]; exact HB12.out.left)
        have HR3 := Lib.hid (show ∀ (L : List (GZ w0)) W', SameF (fG w0) (A1 ++ B1) L → SwSt k4 w0 w blk off (P ++ (L ++ (A2 ++ (B2 ++ S)))) W' → mid < ee → ee < b → Calls Tryz.prog 114 #[.slice (some ⟨blk, off, none⟩) n cap, .int .i64 mid, .int .i64 ee, .int .i64 b, .func (.func 41) #[] #[]] W' (SymPost k4 w0 w blk off (P ++ L) A2 B2 S) from fun L W' hl h h1 h2 => by
          have hll := hl.length
          rw [List.length_append] at hll
          exact HIH.out W' mid b ee mid b ee (P ++ L) A2 B2 S hAB.2 (by rw [List.append_assoc]; exact h) (by rw [← hlen1]; simp; omega) (by simp; omega) (by omega) (by omega) (by omega) (by omega) HA12.out.right HB12.out.right rfl rfl rfl)
        have HR3n := Lib.hid (show ∀ (L : List (GZ w0)) W', SwSt k4 w0 w blk off (P ++ (L ++ (A2 ++ (B2 ++ S)))) W' → ¬ (mid < ee ∧ ee < b) → ∃ M, SwSt k4 w0 w blk off ((P ++ L) ++ (M ++ S)) W' ∧ SortedF (fG w0) M ∧ SameF (fG w0) (A2 ++ B2) M from fun L W' h h1 => by
          refine ⟨A2 ++ B2, by simpa using h, ?_, SameF.refl _⟩
          rcases Nat.lt_or_ge mid ee with h2 | h2
          · have e : B2 = [] := List.eq_nil_of_length_eq_zero (by omega)
            rw [e, List.append_nil]; exact HA12.out.right
          · have e : A2 = [] := List.eq_nil_of_length_eq_zero (by omega)
            rw [e, List.nil_append]; exact HB12.out.right)
        have HEND := Lib.hid (show ∀ (L R : List (GZ w0)) W', SortedF (fG w0) L → SameF (fG w0) (A1 ++ B1) L → SortedF (fG w0) R → SameF (fG w0) (A2 ++ B2) R → SwSt k4 w0 w blk off ((P ++ L) ++ (R ++ S)) W' → ∃ M, SwSt k4 w0 w blk off (P ++ (M ++ S)) W' ∧ SortedF (fG w0) M ∧ SameF (fG w0) (A ++ B) M from fun L R W' h1 h2 h3 h4 h5 => by
          have hm := merge_two HA12.out HB12.out f6 f7 h1 h2 h3 h4
          rw [eA, eB] at hm
          exact ⟨L ++ R, by simpa using h5, hm.1, hm.2⟩)
        clear f6 f7 hA1' hA2' hB1' hB2' eA eB g1 g2 g3 g4 HA12 HB12 hlen0 hlen1 hPa hNN hAB HSW HSY HC0 hnm f5 hee
        obtain ⟨b1, hb1⟩ : ∃ b1, b1 = decide (s < m ∧ m < ee) := ⟨_, rfl⟩
        have Hb1 := Lib.hid hb1
        clear hb1
        go_upto_region 39 with fail
        go_cut [185] (fun sl wx => sl = .bool b1 ∧ wx = wr)
        case first => as_aux_lemma =>
          have e := Hb1.out
          by_cases h1 : s < m
          · have h1z : (s : Int) < (m : Int) := by omega
            by_cases h2 : m < ee
            · have h2z : (m : Int) < (ee : Int) := by omega
              rw [decide_eq_true (And.intro h1 h2)] at e
              clear h1 h2
              go_wp2_with fail
              go_meet
              case rel => exact ⟨by rw [e], rfl⟩
            · have h2z : ¬ (m : Int) < (ee : Int) := by omega
              rw [decide_eq_false (fun h => h2 h.2)] at e
              clear h1 h2
              go_wp2_with fail
              go_meet
              case rel => exact ⟨by rw [e], rfl⟩
          · have h1z : ¬ (s : Int) < (m : Int) := by omega
            rw [decide_eq_false (fun h => h1 h.1)] at e
            clear h1
            go_wp2_with fail
            go_meet
            case rel => exact ⟨by rw [e], rfl⟩
        case rest =>
        obtain ⟨rfl, rfl⟩ := hcut
        go_upto_if 185 with fail
        go_cut [] (fun wx => Hid (SwSt k4 w0 w blk off (P ++ (A1 ++ (B1 ++ (A2 ++ (B2 ++ S))))) wx))
        case first => as_aux_lemma =>
          cases b1 with
          | true =>
            have hb := of_decide_eq_true Hb1.out.symm
            have H := Lib.hid (HR1.out hb.1 hb.2)
            clear hb
            go_wp2_with (go_at_call 132; refine H.out.mono ?_; rintro e w' ⟨rfl, hq⟩)
            have HQ := Lib.hid hq
            clear hq
            go_wp2_with fail
            go_meet
            case rel => exact HQ
          | false =>
            have H := Lib.hid (HR1n.out (of_decide_eq_false Hb1.out.symm))
            go_wp2_with fail
            go_meet
            case rel => exact H
        case rest => as_aux_lemma =>
        have HS1 := hcut
        clear hcut HR1 HR1n
        obtain ⟨wd, hwd⟩ : ∃ wd, wd = wc := ⟨_, rfl⟩
        rw [← hwd] at HS1 ⊢
        clear hwd
        obtain ⟨b2, hb2⟩ : ∃ b2, b2 = decide (a < s ∧ s < mid) := ⟨_, rfl⟩
        have Hb2 := Lib.hid hb2
        clear hb2
        go_upto_region 41 with fail
        go_cut [199] (fun sl wx => sl = .bool b2 ∧ wx = wd)
        case first => as_aux_lemma =>
          have e := Hb2.out
          by_cases h1 : a < s
          · have h1z : (a : Int) < (s : Int) := by omega
            by_cases h2 : s < mid
            · have h2z : (s : Int) < (mid : Int) := by omega
              rw [decide_eq_true (And.intro h1 h2)] at e
              clear h1 h2
              go_wp2_with fail
              go_meet
              case rel => exact ⟨by rw [e], rfl⟩
            · have h2z : ¬ (s : Int) < (mid : Int) := by omega
              rw [decide_eq_false (fun h => h2 h.2)] at e
              clear h1 h2
              go_wp2_with fail
              go_meet
              case rel => exact ⟨by rw [e], rfl⟩
          · have h1z : ¬ (a : Int) < (s : Int) := by omega
            rw [decide_eq_false (fun h => h1 h.1)] at e
            clear h1
            go_wp2_with fail
            go_meet
            case rel => exact ⟨by rw [e], rfl⟩
        case rest =>
        obtain ⟨rfl, rfl⟩ := hcut
        go_upto_if 199 with fail
        go_cut [] (fun wx => Hid (∃ M, SwSt k4 w0 w blk off (P ++ (M ++ (A2 ++ (B2 ++ S)))) wx ∧ SortedF (fG w0) M ∧ SameF (fG w0) (A1 ++ B1) M))
        case first => as_aux_lemma =>
          cases b2 with
          | true =>
            have hb := of_decide_eq_true Hb2.out.symm
            have H := Lib.hid (HR2.out _ HS1.out hb.1 hb.2)
            clear hb
            go_wp2_with (go_at_call 114; refine H.out.mono ?_; rintro e w' ⟨rfl, hq⟩)
            have HQ := Lib.hid hq
            clear hq
            go_wp2_with fail
            go_meet
            case rel => exact HQ
          | false =>
            have H := Lib.hid (HR2n.out _ HS1.out (of_decide_eq_false Hb2.out.symm))
            go_wp2_with fail
            go_meet
            case rel => exact H
        case rest => as_aux_lemma =>
        obtain ⟨L, hL1, hL2, hL3⟩ := hcut.out
        have HL1 := Lib.hid hL1
        have HL2 := Lib.hid hL2
        have HL3 := Lib.hid hL3
        clear hL1 hL2 hL3 hcut HR2 HR2n HS1
        by_cases h1 : mid < ee
        · have h1z : (mid : Int) < (ee : Int) := by omega
          by_cases h2 : ee < b
          · have h2z : (ee : Int) < (b : Int) := by omega
            have H := Lib.hid (HR3.out L _ HL3.out HL1.out h1 h2)
            go_wp2_with (go_at_call 114; refine H.out.mono ?_; rintro e w' ⟨rfl, hq⟩)
            obtain ⟨M, m1, m2, m3⟩ := hq
            have HM := Lib.hid (HEND.out L M _ HL2.out HL3.out m2 m3 m1)
            clear m1 m2 m3
            go_wp2_with fail
            go_end0
            exact ⟨rfl, HM.out⟩
          · have h2z : ¬ (ee : Int) < (b : Int) := by omega
            obtain ⟨M, m1, m2, m3⟩ := HR3n.out L _ HL1.out (fun h => h2 h.2)
            have HM := Lib.hid (HEND.out L M _ HL2.out HL3.out m2 m3 m1)
            clear m1 m2 m3
            go_wp2_with fail
            go_end0
            exact ⟨rfl, HM.out⟩
        · have h1z : ¬ (mid : Int) < (ee : Int) := by omega
          obtain ⟨M, m1, m2, m3⟩ := HR3n.out L _ HL1.out (fun h => h1 h.1)
          have HM := Lib.hid (HEND.out L M _ HL2.out HL3.out m2 m3 m1)
          clear m1 m2 m3
          go_wp2_with fail
          go_end0
          exact ⟨rfl, HM.out⟩
end Go.Proofs.YtmmeekmiildliaaGreatDoor
namespace Go.Proofs.YtmmeekmiildliaaGreatDoor
open Go.RowKit Go.Shelf
open Go.Sort hiding Below
set_option linter.unusedSimpArgs false
set_option linter.unusedVariables false
theorem get_list {α : Type} [Inhabited α] (d : Array α) (i : Nat) (h : i < d.toList.length) : d.toList[i] = d[i]! := by
  rw [getElem!_pos d i (by simpa using h)]; simp
theorem ins_lists (w0 : World) (dk : Array (GZ w0)) (P X S : List (GZ w0)) (a b : Nat) (hl : dk.toList = P ++ (X ++ S)) (hP : P.length = a) (hX : a + X.length = b) :
    ∃ M, (insertionSort (ltOf (cfG w0)) dk a b).toList = P ++ (M ++ S) ∧ SortedF (fG w0) M ∧ SameF (fG w0) X M ∧ (insertionSort (ltOf (cfG w0)) dk a b).size = dk.size := by
  have hsz : dk.size = (P ++ (X ++ S)).length := len_list hl
  have hab : a ≤ b := by omega
  have hb : b ≤ dk.size := by rw [hsz]; simp; omega
  obtain ⟨⟨h1, h2, _⟩, h3⟩ := Go.Sort.insertionSort_holds (lt := ltOf (cfG w0)) (cmpV_swo (fun z : GZ w0 => z.1.2)) dk a b hab hb
  have hf : ∀ k, (insertionSort (ltOf (cfG w0)) dk a b).toList.filter (fun x => keyV k (fG w0 x)) = dk.toList.filter (fun x => keyV k (fG w0 x)) := fun k =>
    (insOuter_filter (lt := ltOf (cfG w0)) (fun x => keyV k (fG w0 x)) (fun x y hx hy => by
      have hx' : cmpV k x.1.2 = 0 := of_decide_eq_true hx
      have hy' : cmpV k y.1.2 = 0 := of_decide_eq_true hy
      show decide (cmpV x.1.2 y.1.2 < 0) = false
      rw [← cmpV_left hx', hy']; rfl) a b (b - (a + 1)) (a + 1) dk rfl hb).1
  generalize insertionSort (ltOf (cfG w0)) dk a b = d' at h1 h2 h3 hf ⊢
  have hll : d'.toList.length = (P ++ (X ++ S)).length := by rw [← hsz, ← h1]; simp
  have e1 : d'.toList.take a = P := by
    apply List.ext_getElem
    · rw [List.length_take, hll]; simp; omega
    · intro i hi1 hi2
      rw [List.getElem_take, get_list, h2 i (.inl (by omega)), ← get_list dk i (by rw [hl]; simp; omega)]
      simp only [hl]
      rw [List.getElem_append_left hi2]
  have e2 : d'.toList.drop b = S := by
    apply List.ext_getElem
    · rw [List.length_drop, hll]; simp; omega
    · intro i hi1 hi2
      have hbi : b + i < (P ++ (X ++ S)).length := by simp; omega
      rw [List.getElem_drop, get_list, h2 (b + i) (.inr (by omega)), ← get_list dk (b + i) (by rw [hl]; exact hbi)]
      simp only [hl]
      rw [List.getElem_append_right (by omega), List.getElem_append_right (by omega)]
      congr 1; omega
  have e3 : d'.toList = P ++ ((d'.toList.drop a).take (b - a) ++ S) := by
    conv => lhs; rw [← List.take_append_drop a d'.toList, e1]
    congr 1
    conv => lhs; rw [← List.take_append_drop (b - a) (d'.toList.drop a)]
    congr 1
    rw [List.drop_drop, show a + (b - a) = b by omega, e2]
  refine ⟨(d'.toList.drop a).take (b - a), e3, ?_, fun k => ?_, h1⟩
  · rw [SortedF, List.pairwise_iff_getElem]
    intro i j hi hj hij
    rw [List.length_take, List.length_drop, hll] at hi hj
    rw [List.getElem_take, List.getElem_drop, List.getElem_take, List.getElem_drop, get_list, get_list]
    have := h3 (a + i) (a + j) (by omega) (by omega) (by omega)
    have h4 : ¬ cmpV (fG w0 d'[a + j]!) (fG w0 d'[a + i]!) < 0 := of_decide_eq_false this
    exact cmpV_flip h4
  · have := hf k
    rw [e3, hl, List.filter_append, List.filter_append, List.filter_append, List.filter_append] at this
    exact List.append_cancel_right (List.append_cancel_left this)
set_option maxRecDepth 1000000 in
set_option maxHeartbeats 8000000 in
theorem ins_any (w0 w W : World) (blk off cap n a b : Nat) (az bz : Int) (d0 : Array (GZ w0)) (R : RowK (encG w0) 4 w blk off d0) (hbw : Below w0.heap.size w0 w) (hb0 : w0.heap.size ≤ blk) (hs0 : d0.size = n) (hn : n ≤ 1000000) (P X S : List (GZ w0)) (hW : SwSt 4 w0 w blk off (P ++ (X ++ S)) W)
    (hL : (P ++ (X ++ S)).length = n) (hP : P.length = a) (hX : a + X.length = b) (haz : az = a) (hbz : bz = b) :
    Calls Tryz.prog 113 #[.slice (some ⟨blk, off, none⟩) n cap, .int .i64 az, .int .i64 bz, .func (.func 41) #[] #[]] W fun e W' => e = .returned (.tuple #[]) ∧ ∃ M, SwSt 4 w0 w blk off (P ++ (M ++ S)) W' ∧ SortedF (fG w0) M ∧ SameF (fG w0) X M := by
  subst haz hbz
  obtain ⟨dk, hdl, hsw⟩ := hW
  have hds : dk.size = n := by rw [len_list hdl, hL]
  have hbW : Below w0.heap.size w0 W := by
    obtain ⟨q, os, rfl⟩ := hsw
    exact hbw.trans ((sw_below (encG w0) 4 w blk off q dk os R.hblk).mono hb0)
  have hbl := hsw.lt R.hblk
  have hH := hsw.holds R.hblk R.hH (by rw [hds, hs0])
  have hi := AnyQ.insertionSortCmpFunc insLays 4 (fun w => Tryz.isAgg59 w) (fun w => Tryz.sizeOf59 w) (encG w0) (encG_len w0) (encG_one w0) (cfG w0) 41 #[] blk off cap a b dk W (enters_of Tryz.func41 (by kernel_rfl) rfl) (cmp_lays w0 W blk off dk.size hbW hb0 hbl) hH hbl (by omega) (by rw [hds, ← hL]; simp; omega) (by omega)
  rw [hds] at hi
  refine hi.mono ?_
  rintro e W' ⟨rfl, q, os, rfl⟩
  obtain ⟨M, m1, m2, m3, m4⟩ := ins_lists w0 dk P X S a b hdl hP hX
  exact ⟨rfl, M, ⟨_, m1, hsw.on R.hblk q _ os m4⟩, m2, m3⟩
end Go.Proofs.YtmmeekmiildliaaGreatDoor
namespace Go.Proofs.YtmmeekmiildliaaGreatDoor
open Go.RowKit Go.Shelf
open Go.Sort hiding Below
set_option linter.unusedSimpArgs false
set_option linter.unusedVariables false
/-- Behind the first loop's rounds. -/
def Sta1 (w0 w : World) (blk off : Nat) (L : List (GZ w0)) (a : Nat) (W : World) : Prop :=
  ∃ (Ls : List (List (GZ w0))) (X : List (GZ w0)), SwSt 4 w0 w blk off (Ls.flatten ++ X) W ∧ Blks (fG w0) 20 Ls ∧ Ls.flatten.length = a ∧ SameF (fG w0) L (Ls.flatten ++ X)
/-- Ahead of each round of the great loop. -/
def Sta2 (w0 w : World) (blk off : Nat) (L : List (GZ w0)) (s : Nat) (W : World) : Prop := ∃ L', SwSt 4 w0 w blk off L' W ∧ BlkT (fG w0) s L' ∧ SameF (fG w0) L L'
/-- .. of the inner loop. -/
def Sta3 (w0 w : World) (blk off : Nat) (L : List (GZ w0)) (s a : Nat) (W : World) : Prop :=
  ∃ (Ms Ls : List (List (GZ w0))) (last : List (GZ w0)), SwSt 4 w0 w blk off (Ms.flatten ++ (Ls.flatten ++ last)) W ∧ Blks (fG w0) (2 * s) Ms ∧ Blks (fG w0) s Ls ∧ last.length < s ∧ SortedF (fG w0) last ∧ Ms.flatten.length = a ∧ SameF (fG w0) L (Ms.flatten ++ (Ls.flatten ++ last))
section
variable {w0 w W : World} {blk off n : Nat} {L : List (GZ w0)}
theorem Sta1.step {a : Nat} {Ls : List (List (GZ w0))} {X X1 X2 M : List (GZ w0)} (hX : X = X1 ++ X2) (hb : Blks (fG w0) 20 Ls) (ha : Ls.flatten.length = a) (hs : SameF (fG w0) L (Ls.flatten ++ X)) (h1 : X1.length = 20) (hM : SortedF (fG w0) M) (hM2 : SameF (fG w0) X1 M)
    (hw : SwSt 4 w0 w blk off (Ls.flatten ++ (M ++ X2)) W) : Sta1 w0 w blk off L (a + 20) W := by
  have hl := hM2.length
  refine ⟨Ls ++ [M], X2, by rw [flat_snoc, List.append_assoc]; exact hw, hb.snoc (by omega) hM, by rw [flat_snoc, List.length_append]; omega, ?_⟩
  subst hX
  rw [flat_snoc, List.append_assoc]
  exact hs.trans ((SameF.refl _).app (hM2.app (SameF.refl _)))
theorem Sta1.fin {a : Nat} {Ls : List (List (GZ w0))} {X M : List (GZ w0)} (hb : Blks (fG w0) 20 Ls) (hs : SameF (fG w0) L (Ls.flatten ++ X)) (h1 : X.length < 20) (hM : SortedF (fG w0) M) (hM2 : SameF (fG w0) X M)
    (hw : SwSt 4 w0 w blk off (Ls.flatten ++ (M ++ [])) W) : Sta2 w0 w blk off L 20 W := by
  have hl := hM2.length
  rw [List.append_nil] at hw
  exact ⟨_, hw, ⟨Ls, M, rfl, hb, by omega, hM⟩, hs.trans ((SameF.refl _).app hM2)⟩
theorem Sta3.start {s : Nat} (h : Sta2 w0 w blk off L s W) : Sta3 w0 w blk off L s 0 W := by
  obtain ⟨L', h1, ⟨Ls, last, rfl, h2, h3, h4⟩, h5⟩ := h
  exact ⟨[], Ls, last, h1, Blks.nil, h2, h3, h4, rfl, h5⟩
theorem Sta3.step {s a : Nat} {Ms Ls : List (List (GZ w0))} {l1 l2 last M : List (GZ w0)} (hm : Blks (fG w0) (2 * s) Ms) (hb : Blks (fG w0) s (l1 :: l2 :: Ls)) (h3 : last.length < s) (h4 : SortedF (fG w0) last) (ha : Ms.flatten.length = a) (hs : SameF (fG w0) L (Ms.flatten ++ ((l1 :: l2 :: Ls).flatten ++ last)))
    (hM : SortedF (fG w0) M) (hM2 : SameF (fG w0) (l1 ++ l2) M) (hw : SwSt 4 w0 w blk off (Ms.flatten ++ (M ++ (Ls.flatten ++ last))) W) : Sta3 w0 w blk off L s (a + 2 * s) W := by
  have hl := hM2.length
  have g1 := (hb l1 (by simp)).1
  have g2 := (hb l2 (by simp)).1
  rw [List.length_append] at hl
  refine ⟨Ms ++ [M], Ls, last, by rw [flat_snoc, List.append_assoc]; exact hw, hm.snoc (by omega) hM, fun l h => hb l (by simp [h]), h3, h4, by rw [flat_snoc, List.length_append]; omega, ?_⟩
  rw [flat_snoc, List.append_assoc]
  refine hs.trans ((SameF.refl _).app ?_)
  have e : (l1 :: l2 :: Ls).flatten ++ last = (l1 ++ l2) ++ (Ls.flatten ++ last) := by simp
  rw [e]
  exact hM2.app (SameF.refl _)
theorem Sta3.fin1 {s a : Nat} {Ms : List (List (GZ w0))} {l last M : List (GZ w0)} (hm : Blks (fG w0) (2 * s) Ms) (hl : l.length = s) (h3 : last.length < s) (hs : SameF (fG w0) L (Ms.flatten ++ (l ++ last)))
    (hM : SortedF (fG w0) M) (hM2 : SameF (fG w0) (l ++ last) M) (hw : SwSt 4 w0 w blk off (Ms.flatten ++ (M ++ [])) W) : Sta2 w0 w blk off L (s * 2) W := by
  have hll := hM2.length
  rw [List.length_append] at hll
  rw [List.append_nil] at hw
  exact ⟨_, hw, ⟨Ms, M, rfl, by rw [Nat.mul_comm]; exact hm, by omega, hM⟩, hs.trans ((SameF.refl _).app hM2)⟩
theorem Sta3.fin2 {s a n : Nat} (h : Sta3 w0 w blk off L s a W) (hn : L.length = n) (h1 : ¬ a + s < n) (h2 : n < a + 2 * s) : Sta2 w0 w blk off L (s * 2) W := by
  obtain ⟨Ms, Ls, last, hw, hm, hb, h3, h4, ha, hs⟩ := h
  have hl := hs.length
  rw [hn, List.length_append] at hl
  refine ⟨_, hw, ⟨Ms, Ls.flatten ++ last, rfl, by rw [Nat.mul_comm]; exact hm, by omega, ?_⟩, hs⟩
  exact BlkT.sorted ⟨Ls, last, rfl, hb, h3, h4⟩ (by omega)
end
set_option maxRecDepth 1000000 in
set_option maxHeartbeats 16000000 in
theorem stable_any (w0 w : World) (blk off cap n : Nat) (d0 : Array (GZ w0)) (R : RowK (encG w0) 4 w blk off d0) (hbw : Below w0.heap.size w0 w) (hb0 : w0.heap.size ≤ blk) (hs0 : d0.size = n) (hn : n ≤ 1000000) :
    Calls Tryz.prog 87 #[.slice (some ⟨blk, off, none⟩) n cap, .int .i64 n, .func (.func 41) #[] #[]] w fun e w' => e = .returned (.tuple #[]) ∧ ∃ L', SwSt 4 w0 w blk off L' w' ∧ SortedF (fG w0) L' ∧ SameF (fG w0) d0.toList L' := by
  have hC := cmp_lays w0 w blk off d0.size hbw hb0 R.hblk
  obtain ⟨L, hL⟩ : ∃ L, L = d0.toList := ⟨_, rfl⟩
  have hLn : L.length = n := by rw [hL, ← hs0]; simp
  have HL := Lib.hid hLn
  have H0 := Lib.hid (show Sta1 w0 w blk off L 0 w from ⟨[], L, ⟨d0, by rw [hL]; rfl, SWK.start R.hH⟩, Blks.nil, rfl, SameF.refl _⟩)
  have HI := Lib.hid (fun W a b az bz P X S => ins_any w0 w W blk off cap n a b az bz d0 R hbw hb0 hs0 hn P X S)
  have HS := Lib.hid (sym_any 4 rfl w0 w blk off cap n d0 R hC hs0 hn)
  rw [← hL]
  clear hL hC hs0 hLn
  go_enter Tryz.func87, Tryz.ntmps87
  go_wp2
  go_loopw [7, 8] (fun va vb wr => ∃ a : Nat, va = .int .i64 a ∧ vb = .int .i64 ((a : Int) + 20) ∧ a ≤ n ∧ Hid (Sta1 w0 w blk off L a wr)) (fun va _ _ => n - (intOf va).toNat)
  case atStart => exact ⟨0, rfl, rfl, Nat.zero_le _, H0⟩
  case round =>
    clear H0
    obtain ⟨a, rfl, rfl, han, HST⟩ := hrel
    by_cases hlt : a + 20 ≤ n
    · have hltz : (a : Int) + 20 ≤ (n : Int) := by omega
      obtain ⟨Ls, X, h1, h2, h3, h4⟩ := HST.out
      have hxl : a + X.length = n := by have := h4.length; rw [HL.out, List.length_append] at this; omega
      obtain ⟨X1, X2, hX, hX1⟩ : ∃ X1 X2, X = X1 ++ X2 ∧ X1.length = 20 := ⟨X.take 20, X.drop 20, (List.take_append_drop _ _).symm, by simp; omega⟩
      have h5 := HI.out wr a (a + 20) a ((a : Int) + 20) Ls.flatten X1 X2 (by rw [← hX]; exact h1) (by rw [← hX, List.length_append]; omega) h3 (by omega) rfl (by omega)
      have H5 := Lib.hid h5
      have H6 := Lib.hid (fun (M : List (GZ w0)) (W' : World) (m1 : SwSt 4 w0 w blk off (Ls.flatten ++ (M ++ X2)) W') (m2 : SortedF (fG w0) M) (m3 : SameF (fG w0) X1 M) => Sta1.step (L := L) hX h2 h3 h4 hX1 m2 m3 m1)
      clear h1 h2 h3 h4 hxl hX hX1 h5 HST
      go_wp2_with (go_at_call 113; refine H5.out.mono ?_; rintro e w' ⟨rfl, M, m1, m2, m3⟩)
      have H7 := Lib.hid (H6.out M _ m1 m2 m3)
      clear m1 m2 m3 H5 H6
      go_wp2
      go_roundw
      case rel => exact ⟨a + 20, by go_num, by go_num, hlt, H7⟩
      case measure => simp [intOf]; omega
    · have hltz : ¬ (a : Int) + 20 ≤ (n : Int) := by omega
      obtain ⟨Ls, X, h1, h2, h3, h4⟩ := HST.out
      have hxl : a + X.length = n := by have := h4.length; rw [HL.out, List.length_append] at this; omega
      have h5 := HI.out wr a n a n Ls.flatten X [] (by rw [List.append_nil]; exact h1) (by rw [List.append_nil, List.length_append]; omega) h3 (by omega) rfl rfl
      have H5 := Lib.hid h5
      have H6 := Lib.hid (fun (M : List (GZ w0)) (W' : World) (m1 : SwSt 4 w0 w blk off (Ls.flatten ++ (M ++ [])) W') (m2 : SortedF (fG w0) M) (m3 : SameF (fG w0) X M) => Sta1.fin (a := a) (L := L) h2 h4 (by omega) m2 m3 m1)
      clear h1 h2 h3 h4 hxl h5 HST
      go_wp2_with (go_at_call 113; refine H5.out.mono ?_; rintro e w' ⟨rfl, M, m1, m2, m3⟩)
      have H7 := Lib.hid (H6.out M _ m1 m2 m3)
      clear m1 m2 m3 H5 H6
      go_wp2
      obtain ⟨wo, hwo⟩ : ∃ wo : World, wo = w' := ⟨_, rfl⟩
      rw [← hwo] at H7 ⊢
      clear hwo
      go_loopw [6] (fun vs wr => ∃ s : Nat, vs = .int .i64 s ∧ 1 ≤ s ∧ s ≤ 2 * n + 20 ∧ Hid (Sta2 w0 w blk off L s wr)) (fun vs _ => n - (intOf vs).toNat)
      case atStart => exact ⟨20, rfl, by omega, by omega, H7⟩
      case round =>
        clear H7
        obtain ⟨s, rfl, hs1, hsn, HS2⟩ := hrel
        by_cases hsl : s < n
        · have hslz : (s : Int) < (n : Int) := by omega
          go_wp2_with fail
          obtain ⟨wp, hwp⟩ : ∃ wp : World, wp = wr := ⟨_, rfl⟩
          rw [← hwp] at HS2 ⊢
          clear hwp
          have H3 := Lib.hid (Sta3.start HS2.out)
          go_loopw [7, 8] (fun va vb wr => ∃ a : Nat, va = .int .i64 a ∧ vb = .int .i64 ((a : Int) + 2 * (s : Int)) ∧ a ≤ n ∧ Hid (Sta3 w0 w blk off L s a wr)) (fun va _ _ => n - (intOf va).toNat)
          case atStart => exact ⟨0, rfl, by first | rfl | go_num | simp, Nat.zero_le _, H3⟩
          case round =>
            clear H3 HS2
            obtain ⟨a', rfl, rfl, han', HST⟩ := hrel
            by_cases hlt2 : a' + 2 * s ≤ n
            · have hltz2 : (a' : Int) + 2 * (s : Int) ≤ (n : Int) := by omega
              obtain ⟨Ms, Ls', last, h1, h2, h3, h4, h5, h6, h7⟩ := HST.out
              have hxl : a' + (Ls'.flatten ++ last).length = n := by have := h7.length; rw [HL.out, List.length_append] at this; omega
              obtain ⟨l1, l2, Lt, rfl⟩ := two_front h3 h4 (by omega)
              have g1 := h3 l1 (by simp)
              have g2 := h3 l2 (by simp)
              have e0 : Ms.flatten ++ ((l1 :: l2 :: Lt).flatten ++ last) = Ms.flatten ++ (l1 ++ (l2 ++ (Lt.flatten ++ last))) := by simp
              have h8 := HS.out (l1.length + l2.length) wr a' (a' + 2 * s) (a' + s) a' ((a' : Int) + 2 * (s : Int)) ((a' : Int) + (s : Int)) Ms.flatten l1 l2 (Lt.flatten ++ last) (Nat.le_refl _) (by rw [← e0]; exact h1) (by rw [← e0, List.length_append]; omega) h6 (by omega) (by omega) (by omega) (by omega) g1.2 g2.2 rfl (by omega) (by omega)
              have H8 := Lib.hid h8
              have H9 := Lib.hid (fun (M : List (GZ w0)) (W' : World) (m1 : SwSt 4 w0 w blk off (Ms.flatten ++ (M ++ (Lt.flatten ++ last))) W') (m2 : SortedF (fG w0) M) (m3 : SameF (fG w0) (l1 ++ l2) M) => Sta3.step (L := L) h2 h3 h4 h5 h6 h7 m2 m3 m1)
              clear h1 h2 h3 h4 h5 h6 h7 hxl g1 g2 e0 h8 HST
              go_wp2_with (go_at_call 114; refine H8.out.mono ?_; rintro e w' ⟨rfl, M, m1, m2, m3⟩)
              have H7 := Lib.hid (H9.out M _ m1 m2 m3)
              clear m1 m2 m3 H8 H9
              go_wp2
              go_roundw
              case rel => exact ⟨a' + 2 * s, by go_num, by go_num, hlt2, H7⟩
              case measure => simp [intOf]; omega
            · have hltz2 : ¬ (a' : Int) + 2 * (s : Int) ≤ (n : Int) := by omega
              by_cases hms : a' + s < n
              · have hmsz : (a' : Int) + (s : Int) < (n : Int) := by omega
                obtain ⟨Ms, Ls', last, h1, h2, h3, h4, h5, h6, h7⟩ := HST.out
                have hxl : a' + (Ls'.flatten ++ last).length = n := by have := h7.length; rw [HL.out, List.length_append] at this; omega
                rcases one_front h3 (show (Ls'.flatten ++ last).length < 2 * s by omega) with rfl | ⟨l, rfl⟩
                · exfalso; simp at hxl; omega
                · have g1 := h3 l (by simp)
                  have e0 : Ms.flatten ++ ([l].flatten ++ last) = Ms.flatten ++ (l ++ last) := by simp
                  rw [e0] at h1 h7
                  have h8 := HS.out (l.length + last.length) wr a' n (a' + s) a' n ((a' : Int) + (s : Int)) Ms.flatten l last [] (Nat.le_refl _) (by rw [List.append_nil]; exact h1) (by rw [List.append_nil, ← HL.out, h7.length]) h6 (by omega) (by simp at hxl; omega) (by omega) (by simp at hxl; omega) g1.2 h5 rfl (by omega) rfl
                  have H8 := Lib.hid h8
                  have H9 := Lib.hid (fun (M : List (GZ w0)) (W' : World) (m1 : SwSt 4 w0 w blk off (Ms.flatten ++ (M ++ [])) W') (m2 : SortedF (fG w0) M) (m3 : SameF (fG w0) (l ++ last) M) => Sta3.fin1 (a := a') (L := L) h2 g1.1 h4 h7 m2 m3 m1)
                  clear h1 h2 h3 h4 h5 h6 h7 hxl g1 e0 h8 HST
                  go_wp2_with (go_at_call 114; refine H8.out.mono ?_; rintro e w' ⟨rfl, M, m1, m2, m3⟩)
                  have H7 := Lib.hid (H9.out M _ m1 m2 m3)
                  clear m1 m2 m3 H8 H9
                  go_wp2
                  go_roundw
                  case rel => exact ⟨s * 2, by go_num, by omega, by omega, H7⟩
                  case measure => simp [intOf]; omega
              · have hmsz : ¬ (a' : Int) + (s : Int) < (n : Int) := by omega
                have H7 := Lib.hid (HST.out.fin2 HL.out hms (by omega))
                clear HST
                go_wp2
                go_roundw
                case rel => exact ⟨s * 2, by go_num, by omega, by omega, H7⟩
                case measure => simp [intOf]; omega
        · have hslz : ¬ (s : Int) < (n : Int) := by omega
          go_wp2
          go_end0
          obtain ⟨L', h1, h2, h3⟩ := HS2.out
          exact ⟨rfl, L', h1, h2.sorted (by have := h3.length; rw [HL.out] at this; omega), h3⟩
end Go.Proofs.YtmmeekmiildliaaGreatDoor
namespace Go.Proofs.YtmmeekmiildliaaGreatDoor
open Go.RowKit Go.Shelf
open Go.Sort hiding Below
set_option linter.unusedSimpArgs false
set_option linter.unusedVariables false
theorem sort_call (w : World) (A : Option Addr) (n cap : Nat) (Q : World → Prop) (h : Calls Tryz.prog 87 #[.slice A n cap, .int .i64 n, .func (.func 41) #[] #[]] w fun e w' => e = .returned (.tuple #[]) ∧ Q w') :
    Calls Tryz.prog 52 #[.slice A n cap, .func (.func 41) #[] #[]] w fun e w' => e = .returned (.tuple #[]) ∧ Q w' := by
  have HI := Lib.hid h
  clear h
  go_enter Tryz.func52, Tryz.ntmps52
  go_wp2_with fail
  go_at_call 87
  refine HI.out.mono ?_
  clear HI
  rintro e w' ⟨rfl, hq⟩
  have HQ := Lib.hid hq
  clear hq
  go_wp2_with fail
  go_end0
  exact ⟨rfl, HQ.out⟩
theorem sorts_of {w0 : World} {K L : List (GZ w0)} (h1 : SortedF (fG w0) L) (h2 : SameF (fG w0) K L) : SortsTo (K.map fun z => z.1.2) (L.map fun z => z.1.2) := by
  constructor
  · rw [List.pairwise_map]; exact h1
  · intro k
    rw [List.filter_map, List.filter_map]
    congr 1
    exact h2 k
theorem sort_all (w0 w : World) (B blk n cap : Nat) (Z : List RZ) (h : Below w0.heap.size w0 w) (hb : w0.heap.size ≤ blk) (hg : ∀ z ∈ Z, Good w0 z) (hn : n = Z.length) (h19 : n ≤ 1000000)
    (ho : w.ownsRow B 59 4 (.slice (some ⟨blk, 0, none⟩) n cap) n (cellsR Z)) :
    Calls Tryz.prog 52 #[.slice (some ⟨blk, 0, none⟩) n cap, .func (.func 41) #[] #[]] w fun e w' => e = .returned (.tuple #[]) ∧ ∃ Z' : List RZ, SortsTo (Z.map Prod.snd) (Z'.map Prod.snd) ∧ (∀ z ∈ Z', Good w0 z) ∧ Z'.length = n ∧ Row w' (some ⟨blk, 0, none⟩) (cellsR Z') ∧ Below blk w w' := by
  obtain ⟨l, hl⟩ := exists_gz w0 Z hg
  obtain ⟨d, hd⟩ : ∃ d : Array (GZ w0), d = l.toArray := ⟨_, rfl⟩
  have hdl : d.toList = l := by rw [hd]
  have hds : d.size = n := by rw [hd, hn, ← hl]; simp
  have ho2 : w.ownsRow B 59 4 (.slice (some ⟨blk, 0, none⟩) n cap) n (cellsR (d.toList.map Subtype.val)) := by rw [hdl, hl]; exact ho
  obtain ⟨hH, hblk⟩ := holds_rows w0 w B blk n cap d hds.symm ho2
  have R : RowK (encG w0) 4 w blk 0 d := ⟨encG_len w0, encG_one w0, hH, hblk⟩
  refine sort_call w _ n cap _ ((stable_any w0 w blk 0 cap n d R h hb hds h19).mono ?_)
  rintro e w' ⟨rfl, L', ⟨dk, hdk, q, os, rfl⟩, h2, h3⟩
  refine ⟨rfl, L'.map Subtype.val, ?_, ?_, ?_, ?_, sw_below _ _ _ _ _ _ _ _ hblk⟩
  · have := sorts_of h2 h3
    have e1 : d.toList.map (fun z : GZ w0 => z.1.2) = Z.map Prod.snd := by rw [hdl, ← hl, List.map_map]; rfl
    rw [e1] at this
    rw [List.map_map]
    exact this
  · intro z hz
    obtain ⟨y, _, rfl⟩ := List.mem_map.1 hz
    exact y.2
  · rw [List.length_map, ← h3.length]; simp [hds]
  · rw [← hdk]
    exact row_holds w0 _ blk dk (holdsK_sortWorldK_c (encG w0) 4 w blk 0 d _ _ _ hH hblk (by rw [len_list hdk, ← h3.length]; simp))
end Go.Proofs.YtmmeekmiildliaaGreatDoor
namespace Go.Proofs.YtmmeekmiildliaaGreatDoor
open Go.RowKit Go.Shelf
set_option linter.unusedSimpArgs false
set_option linter.unusedVariables false
attribute [local go_sem] Oper.semAt_some
set_option maxRecDepth 100000 in
set_option maxHeartbeats 16000000 in
theorem fold_many (A : Option Addr) (n c : Nat) (Z : List RZ) (w : World) (hA : RowsC w A Z) (hn : n = Z.length) (hnc : n ≤ c) (ha : A = none → c = 0) (h1 : 1 ≤ n) (h19 : n ≤ 1000000) (hct : ∀ z ∈ Z, 0 ≤ z.2.count ∧ z.2.count ≤ 1048576) :
    Calls Tryz.prog 24 #[.slice A n c] w (FoldPost w Z) := by
  refine (callsIn_wide (n := 9)).1 ?_
  have HA := Lib.hid hA
  have HN := Lib.hid hn
  have HNC := Lib.hid hnc
  have HAN := Lib.hid ha
  have HCT := Lib.hid hct
  obtain ⟨i0, hi0, hz0, hz1, hz2⟩ := info_parts info27
  clear hA hn hnc ha hct
  refine callsIn_of_wp_marks Tryz.func24 rfl trivial ?_ rfl
  simp only [Tryz.ntmps24, List.size_toArray, List.length_cons, List.length_nil, Nat.reduceAdd, Nat.reduceSub, Array.replicate_succ, Array.replicate_zero, List.push_toArray, List.append_toArray, List.nil_append, List.cons_append]
  gi_wp2
  obtain ⟨W1, hW1⟩ : ∃ W1, W1 = (w.alloc (.cells #[.slice none 0 0] 46)).alloc (.cells #[.int .i64 0] 34) := ⟨_, rfl⟩
  have hb1 : Below w.heap.size w W1 := by rw [hW1]; exact bpush (bpush (Below.refl _ _) _) _
  have hs1 : W1.heap.size = w.heap.size + 2 := by rw [hW1]; simp
  have HR2 := Lib.hid (show Blk W1 w.heap.size 46 #[.slice none 0 0] by rw [hW1]; exact (Blk.new w 46 _).alloc _)
  have HR3 := Lib.hid (show Blk W1 (w.heap.size + 1) 34 #[.int .i64 0] by rw [hW1]; have := Blk.new (w.alloc (.cells #[.slice none 0 0] 46)) 34 #[.int .i64 0]; simpa using this)
  rw [← hW1]
  have HB1 := Lib.hid hb1
  clear hW1 hb1
  refine ⟨trivial, (callsIn_wide.2 (cloneR_any A n c (cellsR Z) W1 (HA.out.row.keep (Nat.le_refl _) HB1.out) (by rw [cellsR_length, HN.out]) (one_cellsR Z) HNC.out HAN.out (by omega))).mono ?_⟩
  rintro e w2 ⟨D, k, rfl, ho2, hb2⟩
  have hD : ∃ blk, D = some ⟨blk, 0, none⟩ ∧ W1.heap.size ≤ blk ∧ n ≤ k := by
    rcases ho2.2 with ⟨_, h0⟩ | ⟨g, cap, cur, he, hbb, _, hcap, _⟩
    · omega
    · cases he; exact ⟨g, rfl, hbb, hcap⟩
  obtain ⟨blk, rfl, hbk, hnk⟩ := hD
  have HO2 := Lib.hid ho2
  have HB2 := Lib.hid (bthen HB1.out hb2)
  have HR2 := Lib.hid (HR2.out.below hb2 (by omega))
  have HR3 := Lib.hid (HR3.out.below hb2 (by omega))
  have hs2 : W1.heap.size ≤ w2.heap.size := hb2.size
  clear ho2 hb2
  gi_wp2
  refine ⟨trivial, (callsIn_wide.2 (sort_all w w2 W1.heap.size blk n k Z HB2.out (by omega) HA.out.good HN.out h19 HO2.out)).mono ?_⟩
  rintro e w3 ⟨rfl, Z', hst, hg', hl', hrow', hb3⟩
  have HB3 := Lib.hid (HB2.out.trans (hb3.mono (show w.heap.size ≤ blk by omega)))
  have HR2 := Lib.hid (HR2.out.below hb3 (by omega))
  have HR3 := Lib.hid (HR3.out.below hb3 (by omega))
  have HST := Lib.hid hst
  have HG := Lib.hid hg'
  have HL := Lib.hid hl'
  have HROW := Lib.hid hrow'
  have hblk : blk < w3.heap.size := by
    rcases hrow' with h0 | ⟨b, off, he, hc⟩
    · have := cellsR_length Z'; rw [h0, hl'] at this; simp at this; omega
    · cases he
      obtain ⟨b', off', he', c0, _⟩ := row4 (k := 0) (.inr ⟨blk, 0, rfl, hc⟩ : Row w3 (some ⟨blk, 0, none⟩) (cellsR Z')) (by omega)
      cases he'; exact lt_of_cell c0
  have hs3 : w.heap.size + 2 ≤ w3.heap.size := by omega
  clear hst hg' hl' hrow' hb3 HO2
  gi_wp2
  refine ⟨trivial, (callsIn_wide.2 (keys_maker (some ⟨blk, 0, none⟩) n k _)).mono ?_⟩
  rintro e w4 ⟨rfl, rfl⟩
  gi_wp2
  obtain ⟨W3, hW3⟩ : ∃ W3, (w3.alloc (.cells #[.slice none 0 0] 46)).alloc (.cells #[.slice (some ⟨blk, 0, none⟩) n k] 46) = W3 := ⟨_, rfl⟩
  obtain ⟨ob, hob⟩ : ∃ ob, ob = w3.heap.size := ⟨_, rfl⟩
  have hsz3 : W3.heap.size = ob + 2 := by rw [← hW3, hob]; simp
  have hb43 : Below w3.heap.size w3 W3 := by rw [← hW3]; exact bpush (bpush (Below.refl _ _) _) _
  have HFD := Lib.hid (show Fd w W3 ob (.slice none 0 0) [] W3 from ⟨by rw [← hW3, hob]; exact (Blk.new w3 46 _).alloc _, Near.refl _ _ _, World.ownsRow_nil _ _ _ _, fun y hy => by cases hy⟩)
  have HBS := Lib.hid (show Blk W3 (ob + 1) 46 #[.slice (some ⟨blk, 0, none⟩) n k] by rw [← hW3, hob]; have := Blk.new (w3.alloc (.cells #[.slice none 0 0] 46)) 46 #[.slice (some ⟨blk, 0, none⟩) n k]; simpa using this)
  have HR2 := Lib.hid (HR2.out.below hb43 (by omega))
  have HR3 := Lib.hid (HR3.out.below hb43 (by omega))
  have HROW := Lib.hid (HROW.out.keep (Nat.le_refl _) hb43)
  have HBW := Lib.hid (bthen HB3.out hb43)
  have hob1 : w.heap.size + 2 ≤ ob := by omega
  have hob2 : blk < ob := by omega
  rw [hW3, ← hob]
  clear hW3 hob hb43 HB3 HB2 HB1 hblk hs3 hs2 hs1
  obtain ⟨K', hK'⟩ : ∃ K', K' = Z'.map Prod.snd := ⟨_, rfl⟩
  have HK := Lib.hid hK'
  have HKL := Lib.hid (show K'.length = n by rw [hK', List.length_map, HL.out])
  have HCZ := Lib.hid (show ∀ i (h : i < Z'.length), 0 ≤ Z'[i].2.count ∧ Z'[i].2.count ≤ 1048576 from fun i h => by
    have hm : Z'[i].2 ∈ Z'.map Prod.snd := List.mem_map.2 ⟨_, List.getElem_mem h, rfl⟩
    have hm2 := HST.out.mem hm
    obtain ⟨z, hz, he⟩ := List.mem_map.1 hm2
    have := HCT.out z hz
    rw [he] at this
    exact this)
  rw [← hK'] at HST
  clear hK'
  refine range_rec (by omega) (gf := 88) (lb := #[.pointer (some ⟨ob + 1, 0, none⟩)]) rfl (enters_of Tryz.func88 (by kernel_rfl) rfl) ?_
  intro fn rec hrec
  rw [hsz3] at hrec ⊢
  have HLDJ : ∀ v Y W, Fd w W3 ob v Y W → W.cell? ⟨ob + 1, 0, none⟩ = some (.slice (some ⟨blk, 0, none⟩) n k) ∧ Row W (some ⟨blk, 0, none⟩) (cellsR Z') ∧ Below w.heap.size w W := fun v Y W h => by
    have h1 : Blk W (ob + 1) 46 #[.slice (some ⟨blk, 0, none⟩) n k] := (h.near.block (ob + 1) (by omega) (by omega)).trans HBS.out
    have h2 := h1.cell 0
    exact ⟨by simpa using h2, h.near.row HROW.out (by omega) (fun b off e => by cases e; omega), HBW.out.trans (h.near.below (by omega) (by omega))⟩
  have HLD := Lib.hid HLDJ
  clear HLDJ
  refine CallsIn.mono (keys_in 8 (ob + 2 + 1) (ob + 1) n k blk Z' (by rw [HL.out]) (by omega) hnk
    (fun k W => W.heap[ob + 2 + 1]? = some (.loop (rec .ready none)) ∧ W.heap[ob + 2]? = some (.deferred (some [])) ∧ ∃ v Y, Fd w W3 ob v Y W ∧ Y.length ≤ k ∧ FoldSt K' (Y.map Prod.snd) k)
    (fun W => W.heap[ob + 2 + 1]? = some (.loop (rec .done (some .ret))) ∧ W.heap[ob + 2]? = some (.deferred (some [])) ∧ ∃ x : Int, x ≠ 0 ∧ Blk W w.heap.size 46 #[.slice none 0 0] ∧ Blk W (w.heap.size + 1) 34 #[.int .i64 x] ∧ Below w.heap.size w W ∧ foldL K' = ([], x))
    ?pays ?allocs ?round _ ?start) ?post
  case pays =>
    rintro k W ⟨_, _, v, Y, h, _⟩
    obtain ⟨h1, h2, h3⟩ := HLD.out _ _ _ h
    exact ⟨h1, h2, fun z hz => (HG.out z hz).keep h3⟩
  case allocs =>
    rintro k W W' ⟨h1, h2, v, Y, h3, h4⟩ hg
    exact ⟨(hg.block _ (lt_of_heap h1) (by simp)).trans h1, (hg.block _ (lt_of_heap h2) (by simp)).trans h2, v, Y, h3.none (by have := lt_of_heap h1; omega) hg, h4⟩
  case start =>
    refine ⟨?_, ?_, _, [], (HFD.out.none (by omega) (World.grownBy_alloc _ _ none)).none (by simp; omega) (World.grownBy_alloc _ _ none), by simp, FoldSt.start _⟩
    · have := World.alloc_heap_new (W3.alloc (.deferred (some []))) (.loop (rec .ready none))
      rw [World.size_alloc, hsz3] at this
      exact this
    · have := World.alloc_heap_new W3 (.deferred (some []))
      rw [hsz3] at this
      exact (Below.heap_alloc _ _ _ (by simp; omega)).trans this
  case round =>
    rintro b e W hsb ⟨hL, hD, v, Y, hfd, hyl, hfs⟩
    obtain ⟨hbe, hez, hs3', hs4'⟩ := id hsb
    have HSK := Lib.hid (show StK K' b e by rw [HK.out]; exact hsb.stK)
    obtain ⟨hc1, hrow, hbw⟩ := HLD.out _ _ _ hfd
    have hbz : b < Z'.length := by omega
    obtain ⟨m, hm⟩ : ∃ m, m = e - b := ⟨_, rfl⟩
    obtain ⟨q, hq⟩ : ∃ q, q = k - b := ⟨_, rfl⟩
    have hm1 : 1 ≤ m := by omega
    have hmq : m ≤ q := by have := HL.out; omega
    have hm9 : m ≤ 1000000 := by have := HL.out; omega
    have hb9 : b < 1000000 := by have := HL.out; omega
    obtain ⟨oo, hoo⟩ : ∃ oo, oo = if q = 1 then b * 4 else b * 4 + 4 := ⟨_, rfl⟩
    have sl := slice_tail blk (b * 4) m q hm1
    rw [← hoo] at sl
    rw [← hm, ← hq]
    obtain ⟨V, hV⟩ : ∃ V, W.putObj (ob + 2 + 1) (.loop (rec .busy none)) = V := ⟨_, rfl⟩
    have hfv := hfd.loop hL (by omega) (.loop (rec .busy none))
    rw [hV] at hfv
    have HFD := Lib.hid hfv
    have HLP := Lib.hid (show V.heap[ob + 2 + 1]? = some (.loop (rec .busy none)) by rw [← hV]; exact put_loop hL _)
    have HDF := Lib.hid (show V.heap[ob + 2]? = some (.deferred (some [])) by rw [← hV]; exact (World.putObj_heap_other (by omega)).trans hD)
    have HLW := Lib.hid hL
    have HV := Lib.hid hV
    have HYL := Lib.hid hyl
    have HFS := Lib.hid hfs
    have HBE := Lib.hid (show b < e ∧ e ≤ Z'.length ∧ m = e - b ∧ q = k - b from ⟨hbe, hez, hm, hq⟩)
    have HOO := Lib.hid hoo
    have HBZ := Lib.hid hbz
    have hLr := hL
    refine round_rec hrec hLr rfl ?_
    clear hfd hyl hfs hfv hL hD hV hc1 hrow hbw hrec hsb hbe hez hs3' hs4' hm hq hoo
    gi_wp2
    refine ⟨HLW.out, ?_⟩
    rw [HV.out]
    clear HV HLW
    obtain ⟨hc1, hrow, hbw⟩ := HLD.out _ _ _ HFD.out
    obtain ⟨bb, oo2, he2, p0, p1, p2, p3⟩ := row4 hrow HBZ.out
    cases he2
    simp only [Nat.zero_add] at p0 p1 p2 p3
    obtain ⟨⟨⟨D0, n0, c0, G0, gn0, gc0⟩, ⟨t0, L0, u0, X0⟩⟩, hz0'⟩ : ∃ z, z = Z'[b]'HBZ.out := ⟨_, rfl⟩
    rw [← hz0'] at p0 p1 p2 p3
    simp only at p0 p1 p2 p3
    have HZ0 := Lib.hid hz0'
    have hmi : (0 : Int) < (m : Int) := by omega
    clear hz0' hc1 hrow
    have HKB := Lib.hid (show ∀ h : b < K'.length, K'[b] = ⟨t0, L0, u0, X0⟩ from fun h => by
      have h2 : K' = Z'.map Prod.snd := HK.out
      subst h2
      rw [List.getElem_map, ← HZ0.out])
    have HCB := Lib.hid (show 0 ≤ u0 ∧ u0 ≤ 1048576 by have := HCZ.out b HBZ.out; rw [← HZ0.out] at this; exact this)
    have HGB := Lib.hid (show Good w (⟨D0, n0, c0, G0, gn0, gc0⟩, ⟨t0, L0, u0, X0⟩) by rw [HZ0.out]; exact HG.out _ (List.getElem_mem HBZ.out))
    have hvz : ob + 2 + 1 < V.heap.size := lt_of_heap HLP.out
    obtain ⟨Gp, hGp⟩ : ∃ Gp, Gp = (K'.drop (b + 1)).take (e - (b + 1)) := ⟨_, rfl⟩
    have HGP := Lib.hid hGp
    have HGL := Lib.hid (show Gp.length = m - 1 by rw [hGp, List.length_take, List.length_drop, HKL.out]; have h := HBE.out; have h2 := HL.out; omega)
    clear hGp
    gi_wp2
    clear p0 p1 p2 p3
    gi_loopw [8, 9, 23] (fun q8 q9 i wr => ∃ (k0 : Nat) (z : RZ), i = .int .i64 (k0 : Int) ∧ k0 ≤ m - 1 ∧ V.heap.size + 1 ≤ wr.heap.size ∧ Hid (Bx4 wr V.heap.size (.int .i64 z.2.t) (.slice z.1.D z.1.n z.1.c) (.int .i64 z.2.count) (.slice z.1.G z.1.gn z.1.gc)) ∧ Hid (Below V.heap.size V wr) ∧ Hid (Good w z ∨ Owned (V.heap.size + 1) wr z) ∧ Hid (0 ≤ z.2.count ∧ z.2.count ≤ 1048576) ∧ Hid (AllSt ⟨t0, L0, u0, X0⟩ Gp z.2 k0)) (fun _ _ i _ => m - 1 - (intOf i).toNat)
    case atStart => exact ⟨0, (⟨D0, n0, c0, G0, gn0, gc0⟩, ⟨t0, L0, u0, X0⟩), rfl, Nat.zero_le _, by simp, Lib.hid Bx4.made, Lib.hid (bpush (Below.refl _ _) _), Lib.hid (.inl HGB.out), HCB, Lib.hid (AllSt.start _ _)⟩
    case round =>
      obtain ⟨k0, ⟨⟨D1, n1, c1, G1, gn1, gc1⟩, ⟨t1, L1, u1, X1⟩⟩, rfl, hk, hgw, HBX, HBV, HGO, HCN, HAS⟩ := hrel
      simp only at HBX HCN HAS
      have HFR := Lib.hid (HFD.out.none (by omega) (grown_none HBV.out))
      have HLR := Lib.hid ((HBV.out.block _ (by omega)).trans HLP.out)
      have HDR := Lib.hid ((HBV.out.block _ (by omega)).trans HDF.out)
      obtain ⟨hc1, hrow, hbw⟩ := HLD.out _ _ _ HFR.out
      have HBWR := Lib.hid hbw
      have HRWR := Lib.hid hrow
      clear hc1 hrow hbw
      obtain ⟨e0, e1, e2, e3, ef⟩ := HBX.out
      by_cases hlt : k0 < m - 1
      case neg =>
        have hki : ¬ ((k0 : Int) < ((m - 1 : Nat) : Int)) := by omega
        have HJN := Lib.hid (show joinAll (K'[b]'(by rw [HKL.out]; have h8 := HBE.out; have h9 := HL.out; omega)) ((K'.drop (b + 1)).take (e - (b + 1))) = (⟨t1, L1, u1, X1⟩, 0) by
          have h := HAS.out
          rw [show k0 = Gp.length by rw [HGL.out]; omega] at h
          have h2 := h.fin
          rw [HKB.out (by rw [HKL.out]; have h8 := HBE.out; have h9 := HL.out; omega), ← HGP.out]
          exact h2)
        clear hlt
        have b0 := HFR.out.b.cell 0
        simp at b0
        have hYb : Y.length ≤ 1000000 := by have := HYL.out; omega
        gi_wp2_with (gi_at_builtin; refine wpListIn_append_own _ rfl _ _ 46 rfl (ob + 2) 59 i0 (.agg #[.int .i64 0, .slice none 0 0, .int .i64 0, .slice none 0 0]) 4 64 Tryz.underlying46 hi0 hz0 hz1 hz2 rfl (by decide) v Y.length (cellsR Y) rfl (HFR.out.own.alloc _) ⟨wr.heap.size, 0, none⟩ 1 1 [.int .i64 t1, .slice D1 n1 c1, .int .i64 u1, .slice G1 gn1 gc1] rfl rfl (Row.made rfl rfl).at' (by intro u hu; simp at hu; rcases hu with rfl | rfl | rfl | rfl <;> rfl) (by unfold maxLen; omega) (by omega) (by simp; omega) ?_)
        intro v5 w5 ho5 hg5 _
        have ho6 : w5.ownsRow (ob + 2) 59 4 v5 (Y.length + 1) (cellsR (Y ++ [(⟨D1, n1, c1, G1, gn1, gc1⟩, ⟨t1, L1, u1, X1⟩)])) := by rw [cellsR_app]; exact ho5
        obtain ⟨A5, c5, rfl⟩ := own_is ho6
        have hga := World.grownBy_alloc wr (.cells #[.int .i64 t1, .slice D1 n1 c1, .int .i64 u1, .slice G1 gn1 gc1] 59) none
        have hfa := HFR.out.none (by omega) hga
        have hla := (hga.block _ (lt_of_heap HLR.out) (by simp)).trans HLR.out
        have hda := (hga.block _ (lt_of_heap HDR.out) (by simp)).trans HDR.out
        have hgo : Good w (⟨D1, n1, c1, G1, gn1, gc1⟩, ⟨t1, L1, u1, X1⟩) ∨ Owned (ob + 2) (wr.alloc (.cells #[.int .i64 t1, .slice D1 n1 c1, .int .i64 u1, .slice G1 gn1 gc1] 59)) (⟨D1, n1, c1, G1, gn1, gc1⟩, ⟨t1, L1, u1, X1⟩) := HGO.out.imp id fun k => (k.less (by omega)).grown hga (fun g e => by cases e)
        have hbl : Blk w5 ob 46 #[v] := hfa.b.grown hg5 (hfa.own.not_blk hfa.b (by decide))
        have hlp5 : w5.heap[ob + 2 + 1]? = some (.loop (rec .busy none)) := (hg5.block _ (lt_of_heap hla) (Ne.symm (own_not_loop hfa.own hla))).trans hla
        have hdf5 : w5.heap[ob + 2]? = some (.deferred (some [])) := (hg5.block _ (lt_of_heap hda) (Ne.symm (own_not_def hfa.own hda))).trans hda
        have HLP5 := Lib.hid (show (w5.setCell ⟨ob, 0, none⟩ (.slice A5 (Y.length + 1) c5)).heap[ob + 2 + 1]? = some (.loop (rec .busy none)) from (Below.heap_setCell w5 ⟨ob, 0, none⟩ _ _ (by simp; omega)).trans hlp5)
        have HDF5 := Lib.hid (show (w5.setCell ⟨ob, 0, none⟩ (.slice A5 (Y.length + 1) c5)).heap[ob + 2]? = some (.deferred (some [])) from (Below.heap_setCell w5 ⟨ob, 0, none⟩ _ _ (by simp)).trans hdf5)
        have HFD5 := Lib.hid (hfa.append (by simp; omega) hg5 ho6 hgo)
        have b0 := hbl.cell 0
        have bf := hbl.frozen 0
        simp at b0
        clear ho5 hg5 ho6 hga hfa hla hda hgo hbl hlp5 hdf5 e0 e1 e2 e3 ef
        gi_wp2
        exact ⟨HLP5.out, .inl ⟨rfl, put_loop HLP5.out _, (World.putObj_heap_other (by omega)).trans HDF5.out, _, _, HFD5.out.loop HLP5.out (by omega) _, by rw [List.length_append]; have := HYL.out; have := HBE.out; simp; omega, by rw [List.map_append]; exact HFS.out.next HSK.out HJN.out⟩⟩
      case pos =>
      have hki : (k0 : Int) < ((m - 1 : Nat) : Int) := by omega
      have hk00 : (0 : Int) ≤ (k0 : Int) := by omega
      have hbk : b + 1 + k0 < Z'.length := by have := HBE.out; omega
      have hkg : k0 < Gp.length := by rw [HGL.out]; exact hlt
      obtain ⟨bb, oo2, he2, p0, p1, p2, p3⟩ := row4 HRWR.out hbk
      cases he2
      have hof : 0 + (b + 1 + k0) * 4 = oo + k0 * 4 := by have h := HOO.out; rw [if_neg (by omega)] at h; omega
      rw [hof] at p0 p1 p2 p3
      obtain ⟨⟨⟨D2, n2, c2, G2, gn2, gc2⟩, ⟨t2, L2, u2, X2⟩⟩, hz2'⟩ : ∃ z, z = Z'[b + 1 + k0] := ⟨_, rfl⟩
      rw [← hz2'] at p0 p1 p2 p3
      simp only at p0 p1 p2 p3
      have HG2 := Lib.hid (show Good w (⟨D2, n2, c2, G2, gn2, gc2⟩, ⟨t2, L2, u2, X2⟩) by rw [hz2']; exact HG.out _ (List.getElem_mem hbk))
      have HC2 := Lib.hid (show 0 ≤ u2 ∧ u2 ≤ 1048576 by have := HCZ.out _ hbk; rw [← hz2'] at this; exact this)
      have HGE := Lib.hid (show Gp[k0] = ⟨t2, L2, u2, X2⟩ by
        have h2 : K' = Z'.map Prod.snd := HK.out
        have h3 := HGP.out
        subst h2 h3
        rw [List.getElem_take, List.getElem_drop, List.getElem_map, ← hz2'])
      obtain ⟨⟨rr, x⟩, hrj⟩ : ∃ r, r = joinR ⟨t1, L1, u1, X1⟩ ⟨t2, L2, u2, X2⟩ := ⟨_, rfl⟩
      have HRJ := Lib.hid hrj
      obtain ⟨wa, hwa⟩ : ∃ wa, wa = wr.alloc (.cells #[.int .i64 t2, .slice D2 n2 c2, .int .i64 u2, .slice G2 gn2 gc2] 59) := ⟨_, rfl⟩
      have hba : Below wr.heap.size wr wa := by rw [hwa]; exact bpush (Below.refl _ _) _
      have HJC := Lib.hid (show Calls Tryz.prog 46 #[.agg #[.int .i64 t1, .slice D1 n1 c1, .int .i64 u1, .slice G1 gn1 gc1], .agg #[.int .i64 t2, .slice D2 n2 c2, .int .i64 u2, .slice G2 gn2 gc2]] wa (JoinPost wa (rr, x)) by
        rw [hrj]
        exact join_any (⟨D1, n1, c1, G1, gn1, gc1⟩, ⟨t1, L1, u1, X1⟩) (⟨D2, n2, c2, G2, gn2, gc2⟩, ⟨t2, L2, u2, X2⟩) wa
          (by rcases HGO.out with h | h; exact h.keep (HBWR.out.trans (hba.mono HBWR.out.size)); exact h.good.keep hba) (HG2.out.keep (HBWR.out.trans (hba.mono HBWR.out.size))) HCN.out HC2.out)
      have HBA := Lib.hid hba
      have HWA := Lib.hid hwa
      clear hz2' hrj hof hba hwa
      have hne1 : V.heap.size < wr.heap.size := by omega
      gi_wp2
      rw [← HWA.out]
      refine ⟨trivial, CallsIn.inRound _ ((callsIn_wide.2 HJC.out).mono ?_)⟩
      rintro e9 w9 ⟨⟨⟨D3, n3, c3, G3, gn3, gc3⟩, ⟨t3, L3, u3, X3⟩⟩, rfl, hz9, how9, hb9⟩
      simp only [encR_eq]
      have HZ9 := Lib.hid (show (⟨t3, L3, u3, X3⟩ : RV) = rr from hz9)
      have hbr : Below wr.heap.size wr w9 := HBA.out.trans (hb9.mono HBA.out.size)
      have HB9 := Lib.hid hbr
      have HOW9 := Lib.hid (how9.less (C := V.heap.size + 1) (Nat.le_trans hgw HBA.out.size))
      have HBX9 := Lib.hid (HBX.out.keep hbr)
      have HBV9 := Lib.hid (HBV.out.trans (hbr.mono (show V.heap.size ≤ wr.heap.size by omega)))
      have hs9 : wr.heap.size ≤ w9.heap.size := hbr.size
      clear hz9 how9 hb9 hbr HJC HWA p0 p1 p2 p3 e0 e1 e2 e3 ef hne1
      obtain ⟨e0, e1, e2, e3, ef⟩ := HBX9.out
      obtain ⟨wg, hwg⟩ : ∃ wg, wg = (((w9.setCell ⟨V.heap.size, 0, none⟩ (.int .i64 t3)).setCell ⟨V.heap.size, 1, none⟩ (.slice D3 n3 c3)).setCell ⟨V.heap.size, 2, none⟩ (.int .i64 u3)).setCell ⟨V.heap.size, 3, none⟩ (.slice G3 gn3 gc3) := ⟨_, rfl⟩
      have HBXg := Lib.hid (show Bx4 wg V.heap.size (.int .i64 t3) (.slice D3 n3 c3) (.int .i64 u3) (.slice G3 gn3 gc3) by rw [hwg]; exact HBX9.out.all _ _ _ _)
      have HBVg := Lib.hid (show Below V.heap.size V wg by rw [hwg]; exact bset (bset (bset (bset HBV9.out (Nat.le_refl _) _) (Nat.le_refl _) _) (Nat.le_refl _) _) (Nat.le_refl _) _)
      have had : (Value.slice D3 n3 c3).ownBlock ≠ some V.heap.size := own_apart HOW9.out.d (by omega)
      have hag : (Value.slice G3 gn3 gc3).ownBlock ≠ some V.heap.size := own_apart HOW9.out.g (by omega)
      have HOWg := Lib.hid (show Owned (V.heap.size + 1) wg (⟨D3, n3, c3, G3, gn3, gc3⟩, ⟨t3, L3, u3, X3⟩) by
        rw [hwg]
        exact ⟨own_set' (own_set' (own_set' (own_set' HOW9.out.d had) had) had) had, own_set' (own_set' (own_set' (own_set' HOW9.out.g hag) hag) hag) hag, HOW9.out.sd, HOW9.out.sg⟩)
      have hsg : wg.heap.size = w9.heap.size := by rw [hwg]; simp [World.setCell]
      have HWG := Lib.hid hwg
      clear had hag hwg
      by_cases hx : x = 0
      case pos =>
        subst hx
        have HRR := Lib.hid (show joinR ⟨t1, L1, u1, X1⟩ ⟨t2, L2, u2, X2⟩ = (⟨t3, L3, u3, X3⟩, 0) by rw [← HRJ.out, HZ9.out])
        have HCN3 := Lib.hid (show 0 ≤ u3 ∧ u3 ≤ 1048576 by
          have h := joinR_count (a := ⟨t1, L1, u1, X1⟩) (b := ⟨t2, L2, u2, X2⟩) (by rw [HRR.out]) HCN.out.1 HC2.out.1
          rw [HRR.out] at h; exact h)
        have HAS3 := Lib.hid (HAS.out.next hkg (z := ⟨t3, L3, u3, X3⟩) (by rw [HGE.out]; exact HRR.out))
        gi_wp2
        rw [← HWG.out]
        go_roundw
        case rel => exact ⟨k0 + 1, (⟨D3, n3, c3, G3, gn3, gc3⟩, ⟨t3, L3, u3, X3⟩), by go_num, by omega, by omega, HBXg, HBVg, Lib.hid (.inr HOWg.out), HCN3, HAS3⟩
        case measure => simp [intOf] <;> omega
      case neg =>
        have z1 : (x != 0) = true := by rw [bne_iff_ne]; exact hx
        have HFL := Lib.hid (show foldL K' = ([], x) from HFS.out.bad HSK.out (r := RV.zero) hx (by
          rw [HKB.out (by rw [HKL.out]; have h8 := HBE.out; have h9 := HL.out; omega), ← HGP.out]
          exact HAS.out.bad hkg hx (z := rr) (by rw [HGE.out]; exact HRJ.out.symm)))
        have HX := Lib.hid hx
        have HQ2 := Lib.hid (show Blk wg w.heap.size 46 #[.slice none 0 0] from (HBVg.out.block _ (by omega)).trans ((HFD.out.near.block _ (by omega) (by omega)).trans HR2.out))
        have HQ3 := Lib.hid (show Blk wg (w.heap.size + 1) 34 #[.int .i64 0] from (HBVg.out.block _ (by omega)).trans ((HFD.out.near.block _ (by omega) (by omega)).trans HR3.out))
        have HLg := Lib.hid (show wg.heap[ob + 2 + 1]? = some (.loop (rec .busy none)) from (HBVg.out.block _ (by omega)).trans HLP.out)
        have HDg := Lib.hid (show wg.heap[ob + 2]? = some (.deferred (some [])) from (HBVg.out.block _ (by omega)).trans HDF.out)
        have HBWg := Lib.hid (show Below w.heap.size w wg from (HLD.out _ _ _ HFD.out).2.2.trans (HBVg.out.mono (by omega)))
        have b2 := HQ2.out.cell 0
        have f2 := HQ2.out.frozen 0
        have b3 := HQ3.out.cell 0
        have f3 := HQ3.out.frozen 0
        simp at b2 b3
        have hWC := HWG.out.symm
        clear hx
        gi_wp2
        obtain ⟨we, hwe⟩ : ∃ we, we = (wg.setCell ⟨w.heap.size, 0, none⟩ (.slice none 0 0)).setCell ⟨w.heap.size + 1, 0, none⟩ (.int .i64 x) := ⟨_, rfl⟩
        have q2 : Blk we w.heap.size 46 #[.slice none 0 0] := by rw [hwe]; have h := (HQ2.out.set_ 0 (.slice none 0 0)).far (p := ⟨w.heap.size + 1, 0, none⟩) (by simp) (.int .i64 x); simpa using h
        have q3 : Blk we (w.heap.size + 1) 34 #[.int .i64 x] := by rw [hwe]; have h := (HQ3.out.far (p := ⟨w.heap.size, 0, none⟩) (by simp) (.slice none 0 0)).set_ 0 (.int .i64 x); simpa using h
        have qL : we.heap[ob + 2 + 1]? = some (.loop (rec .busy none)) := by rw [hwe]; exact (Below.heap_setCell _ _ _ _ (by simp; omega)).trans ((Below.heap_setCell _ _ _ _ (by simp; omega)).trans HLg.out)
        have qD : we.heap[ob + 2]? = some (.deferred (some [])) := by rw [hwe]; exact (Below.heap_setCell _ _ _ _ (by simp; omega)).trans ((Below.heap_setCell _ _ _ _ (by simp; omega)).trans HDg.out)
        have qB : Below w.heap.size w we := by rw [hwe]; exact bset (bset HBWg.out (Nat.le_refl _) _) (by omega) _
        rw [← hwe]
        exact ⟨qL, .inr ⟨rfl, put_loop qL _, (World.putObj_heap_other (by omega)).trans qD, x, HX.out, (World.putObj_heap_other (by omega)).trans q2, (World.putObj_heap_other (by omega)).trans q3, qB.grown (grownBy_putObj' we (ob + 2 + 1) _) qB.size (fun k e => by cases e; omega), HFL.out⟩⟩
  case post =>
    rintro e W' ⟨⟨v0, rfl⟩, hJ⟩
    refine ⟨⟨_, rfl⟩, ?_⟩
    rcases hJ with ⟨hL, hD, v, Y, hfd, hyl, hfs⟩ | ⟨hL, hD, x, hx, h2, h3, hbw, hfl⟩
    · refine .inl ⟨hL, ?_⟩
      obtain ⟨V, hV⟩ : ∃ V, W'.putObj (ob + 2 + 1) (.loop (rec .exhausted none)) = V := ⟨_, rfl⟩
      rw [hV]
      have HFD := Lib.hid (show Fd w W3 ob v Y V by rw [← hV]; exact hfd.loop hL (by omega) _)
      have HDF := Lib.hid (show V.heap[ob + 2]? = some (.deferred (some [])) by rw [← hV]; exact (World.putObj_heap_other (by omega)).trans hD)
      have HFL := Lib.hid (show foldL K' = (Y.map Prod.snd, 0) from by
        have h : FoldSt K' (Y.map Prod.snd) K'.length := by rw [HK.out, List.length_map]; exact HK.out ▸ hfs
        exact h.fin)
      have HYL := Lib.hid hyl
      have HBV := Lib.hid (HLD.out _ _ _ HFD.out).2.2
      have HQ2 := Lib.hid (show Blk V w.heap.size 46 #[.slice none 0 0] from (HFD.out.near.block _ (by omega) (by omega)).trans HR2.out)
      have HQ3 := Lib.hid (show Blk V (w.heap.size + 1) 34 #[.int .i64 0] from (HFD.out.near.block _ (by omega) (by omega)).trans HR3.out)
      have b0 := HFD.out.b.cell 0
      simp at b0
      obtain ⟨hYn, vA, vc, rfl, hvr, hvc, hvm, hvn⟩ := own_sliceR HFD.out.own
      have hgy : ∀ y ∈ Y, Good V y := fun y hy => (HFD.out.ys y hy).elim (fun h => h.keep HBV.out) (fun h => h.good)
      have HCC := Lib.hid (copy_any vA Y.length vc Y V ⟨hvr, hgy⟩ rfl (by have := HYL.out; have := HL.out; omega))
      have hdV : ob + 2 < V.heap.size := lt_of_heap HDF.out
      clear hfd hyl hfs hL hD hV hrec hvr hvc hvm hvn hgy hYn
      gi_wp2
      refine ⟨trivial, (callsIn_wide.2 HCC.out).mono ?_⟩
      clear HCC
      rintro e9 w9 ⟨v9, Y9, rfl, ho9, hm9, hy9, hb9⟩
      obtain ⟨A9, c9, rfl⟩ := own_is ho9
      have HO9 := Lib.hid ho9
      have HM9 := Lib.hid hm9
      have HY9 := Lib.hid hy9
      have HQ2 := Lib.hid (HQ2.out.below hb9 (by omega))
      have HQ3 := Lib.hid (HQ3.out.below hb9 (by omega))
      have HD9 := Lib.hid (show w9.heap[ob + 2]? = some (.deferred (some [])) from (hb9.block _ hdV).trans HDF.out)
      have HB9 := Lib.hid (HBV.out.trans (hb9.mono HBV.out.size))
      have hwV : w.heap.size + 2 ≤ V.heap.size := by omega
      have b2 := HQ2.out.cell 0
      have f2 := HQ2.out.frozen 0
      have b3 := HQ3.out.cell 0
      have f3 := HQ3.out.frozen 0
      simp at b2 b3
      clear ho9 hm9 hy9 hb9 b0
      gi_wp2
      obtain ⟨we, hwe⟩ : ∃ we, we = (w9.setCell ⟨w.heap.size, 0, none⟩ (.slice A9 Y.length c9)).setCell ⟨w.heap.size + 1, 0, none⟩ (.int .i64 0) := ⟨_, rfl⟩
      have q2 : Blk we w.heap.size 46 #[.slice A9 Y.length c9] := by rw [hwe]; have h := (HQ2.out.set_ 0 (.slice A9 Y.length c9)).far (p := ⟨w.heap.size + 1, 0, none⟩) (by simp) (.int .i64 0); simpa using h
      have q3 : Blk we (w.heap.size + 1) 34 #[.int .i64 0] := by rw [hwe]; have h := (HQ3.out.far (p := ⟨w.heap.size, 0, none⟩) (by simp) (.slice A9 Y.length c9)).set_ 0 (.int .i64 0); simpa using h
      have qD : we.heap[ob + 2]? = some (.deferred (some [])) := by rw [hwe]; exact (Below.heap_setCell _ _ _ _ (by simp; omega)).trans ((Below.heap_setCell _ _ _ _ (by simp; omega)).trans HD9.out)
      have qB : Below w.heap.size w we := by rw [hwe]; exact bset (bset HB9.out (Nat.le_refl _) _) (by omega) _
      have q3' := HQ3.out.far (p := ⟨w.heap.size, 0, none⟩) (by simp) (.slice A9 Y.length c9)
      have qO : we.ownsRow V.heap.size 59 4 (.slice A9 Y.length c9) Y.length (cellsR Y9) := by
        rw [hwe]
        have h1 := own_set' (o := 0) (u := .slice A9 Y.length c9) HO9.out (HO9.out.not_blk HQ2.out (by decide))
        exact own_set' h1 (h1.not_blk q3' (by decide))
      have qY : ∀ y ∈ Y9, Owned V.heap.size we y := fun y hy => by
        rw [hwe]
        exact ((HY9.out y hy).setB HQ2.out (by decide) (by decide)).setB q3' (by decide) (by decide)
      have hl9 : Y9.length = Y.length := by have := congrArg List.length HM9.out; simpa using this
      rw [← hwe]
      clear hwe q3' b2 b3 f2 f3
      refine ⟨by simp, .inl ⟨_, _, rfl, run_takeDeferred qD, ?_⟩⟩
      obtain ⟨wf, hwf⟩ : ∃ wf, wf = we.putObj (ob + 2) (.deferred none) := ⟨_, rfl⟩
      have hgf : we.grownBy wf (some (ob + 2)) := by rw [hwf]; exact grownBy_putObj' _ _ _
      have c2 := (q2.grown hgf (fun e => by have := Option.some.inj e; omega)).cell 0
      have c3 := (q3.grown hgf (fun e => by have := Option.some.inj e; omega)).cell 0
      simp at c2 c3
      rw [← hwf]
      refine ⟨.tuple #[.slice A9 Y.length c9, .int .i64 0], by simp [results, Tryz.results24, go_sem, c2, c3], ?_⟩
      refine ⟨_, Y9, 0, K', rfl, HST.out, by rw [HFL.out, HM9.out], ?_, ?_, qB.grown hgf qB.size (fun k e => by cases e; omega)⟩
      · rw [hl9]; exact own_less (qO.kept hgf (.inr (own_not_def qO qD))) HBV.out.size
      · exact fun y hy => ((qY y hy).grown hgf (fun g e => by cases e; exact ⟨own_not_def (qY y hy).d qD, own_not_def (qY y hy).g qD⟩)).less HBV.out.size
    · refine .inr ⟨.ret, hL, ?_⟩
      obtain ⟨V, hV⟩ : ∃ V, W'.putObj (ob + 2 + 1) (.loop (rec .exhausted (some .ret))) = V := ⟨_, rfl⟩
      rw [hV]
      have hgV : W'.grownBy V (some (ob + 2 + 1)) := by rw [← hV]; exact grownBy_putObj' _ _ _
      have q2 : Blk V w.heap.size 46 #[.slice none 0 0] := h2.grown hgV (fun e => by have := Option.some.inj e; omega)
      have q3 : Blk V (w.heap.size + 1) 34 #[.int .i64 x] := h3.grown hgV (fun e => by have := Option.some.inj e; omega)
      have qD : V.heap[ob + 2]? = some (.deferred (some [])) := (hgV.block _ (lt_of_heap hD) (fun e => by have := Option.some.inj e; omega)).trans hD
      have qB : Below w.heap.size w V := hbw.grown hgV hbw.size (fun k e => by cases e; omega)
      have HFL := Lib.hid hfl
      clear hV hgV h2 h3 hD hbw hfl hL hx hrec
      gi_wp2
      refine ⟨by simp, .inl ⟨_, _, rfl, run_takeDeferred qD, ?_⟩⟩
      obtain ⟨wf, hwf⟩ : ∃ wf, wf = V.putObj (ob + 2) (.deferred none) := ⟨_, rfl⟩
      have hgf : V.grownBy wf (some (ob + 2)) := by rw [hwf]; exact grownBy_putObj' _ _ _
      have c2 := (q2.grown hgf (fun e => by have := Option.some.inj e; omega)).cell 0
      have c3 := (q3.grown hgf (fun e => by have := Option.some.inj e; omega)).cell 0
      simp at c2 c3
      rw [← hwf]
      refine ⟨.tuple #[.slice none 0 0, .int .i64 x], by simp [results, Tryz.results24, go_sem, c2, c3], ?_⟩
      exact ⟨_, [], x, K', rfl, HST.out, HFL.out, World.ownsRow_nil _ _ _ _, (fun y hy => by cases hy), qB.grown hgf qB.size (fun k e => by cases e; omega)⟩
end Go.Proofs.YtmmeekmiildliaaGreatDoor
namespace Go.Proofs.YtmmeekmiildliaaGreatDoor
open Go.RowKit Go.Shelf
set_option linter.unusedSimpArgs false
set_option linter.unusedVariables false
attribute [local go_sem] Oper.semAt_some
set_option maxRecDepth 100000 in
set_option maxHeartbeats 8000000 in
theorem keys_zero (n l Bs cap : Nat) (D : Option Addr) (W : World) (h : W.cell? ⟨Bs, 0, none⟩ = some (.slice D 0 cap)) :
    CallsIn Fence.wide n Tryz.prog 88 #[.func (.yield l) #[] #[], .pointer (some ⟨Bs, 0, none⟩)] W fun e W' => e = .returned (.tuple #[]) ∧ W' = W := by
  refine callsIn_of_wp Tryz.func88 rfl trivial ?_ rfl
  simp only [Tryz.ntmps88, List.size_toArray, List.length_cons, List.length_nil, Nat.reduceAdd, Nat.reduceSub, Array.replicate_succ, Array.replicate_zero, List.push_toArray, List.append_toArray, List.nil_append, List.cons_append]
  gi_wp2
  refine wpIn_wide.2 ?_
  refine wp_loop_rounds 1 ?_
  rw [rounds_succ]
  go_wp2_with fail
  go_end0
  exact ⟨rfl, rfl⟩
set_option maxRecDepth 1000000 in
set_option maxHeartbeats 8000000 in
theorem ins_zero (w : World) (A : Option Addr) (cap : Nat) : Calls Tryz.prog 113 #[.slice A 0 cap, .int .i64 0, .int .i64 0, .func (.func 41) #[] #[]] w fun e w' => e = .returned (.tuple #[]) ∧ w' = w := by
  go_enter Tryz.func113, Tryz.ntmps113
  go_wp2_with fail
  refine wp_loop_rounds 1 ?_
  rw [rounds_succ]
  go_wp2_with fail
  go_end0
  exact ⟨rfl, rfl⟩
set_option maxRecDepth 1000000 in
set_option maxHeartbeats 8000000 in
theorem stable_zero (w : World) (A : Option Addr) (cap : Nat) : Calls Tryz.prog 87 #[.slice A 0 cap, .int .i64 ((0 : Nat) : Int), .func (.func 41) #[] #[]] w fun e w' => e = .returned (.tuple #[]) ∧ w' = w := by
  go_enter Tryz.func87, Tryz.ntmps87
  go_wp2_with fail
  refine wp_loop_rounds 1 ?_
  rw [rounds_succ]
  go_wp2_with fail
  go_at_call 113
  refine (ins_zero _ _ _).mono ?_
  rintro e w' ⟨rfl, rfl⟩
  go_wp2_with fail
  refine wp_loop_rounds 1 ?_
  rw [rounds_succ]
  go_wp2_with fail
  go_end0
  exact ⟨rfl, rfl⟩
theorem SortsTo.nil : SortsTo [] [] := ⟨List.Pairwise.nil, fun k => rfl⟩
set_option maxRecDepth 100000 in
set_option maxHeartbeats 16000000 in
theorem fold_zero (A : Option Addr) (c : Nat) (w : World) (ha : A = none → c = 0) :
    Calls Tryz.prog 24 #[.slice A 0 c] w (FoldPost w []) := by
  refine (callsIn_wide (n := 9)).1 ?_
  refine callsIn_of_wp_marks Tryz.func24 rfl trivial ?_ rfl
  simp only [Tryz.ntmps24, List.size_toArray, List.length_cons, List.length_nil, Nat.reduceAdd, Nat.reduceSub, Array.replicate_succ, Array.replicate_zero, List.push_toArray, List.append_toArray, List.nil_append, List.cons_append]
  gi_wp2
  obtain ⟨W1, hW1⟩ : ∃ W1, W1 = (w.alloc (.cells #[.slice none 0 0] 46)).alloc (.cells #[.int .i64 0] 34) := ⟨_, rfl⟩
  have hb1 : Below w.heap.size w W1 := by rw [hW1]; exact bpush (bpush (Below.refl _ _) _) _
  have hs1 : W1.heap.size = w.heap.size + 2 := by rw [hW1]; simp
  have HR2 := Lib.hid (show Blk W1 w.heap.size 46 #[.slice none 0 0] by rw [hW1]; exact (Blk.new w 46 _).alloc _)
  have HR3 := Lib.hid (show Blk W1 (w.heap.size + 1) 34 #[.int .i64 0] by rw [hW1]; have := Blk.new (w.alloc (.cells #[.slice none 0 0] 46)) 34 #[.int .i64 0]; simpa using this)
  rw [← hW1]
  have HB1 := Lib.hid hb1
  clear hW1 hb1
  refine ⟨trivial, (callsIn_wide.2 (cloneR_any A 0 c (cellsR []) W1 (.inl rfl) rfl (fun u hu => by cases hu) (Nat.zero_le _) ha (by omega))).mono ?_⟩
  rintro e w2 ⟨D, k, rfl, ho2, hb2⟩
  have HB2 := Lib.hid (bthen HB1.out hb2)
  have HR2 := Lib.hid (HR2.out.below hb2 (by omega))
  have HR3 := Lib.hid (HR3.out.below hb2 (by omega))
  have hs2 : W1.heap.size ≤ w2.heap.size := hb2.size
  clear ho2 hb2
  gi_wp2
  refine ⟨trivial, (callsIn_wide.2 (sort_call w2 D 0 k _ (stable_zero w2 D k))).mono ?_⟩
  rintro e w3 ⟨rfl, rfl⟩
  have HB3 := HB2
  have hs3 : w.heap.size + 2 ≤ w3.heap.size := by omega
  gi_wp2
  refine ⟨trivial, (callsIn_wide.2 (keys_maker D 0 k _)).mono ?_⟩
  rintro e w4 ⟨rfl, rfl⟩
  gi_wp2
  obtain ⟨W3, hW3⟩ : ∃ W3, (w3.alloc (.cells #[.slice none 0 0] 46)).alloc (.cells #[.slice D 0 k] 46) = W3 := ⟨_, rfl⟩
  obtain ⟨ob, hob⟩ : ∃ ob, ob = w3.heap.size := ⟨_, rfl⟩
  have hsz3 : W3.heap.size = ob + 2 := by rw [← hW3, hob]; simp
  have hb43 : Below w3.heap.size w3 W3 := by rw [← hW3]; exact bpush (bpush (Below.refl _ _) _) _
  have HFD := Lib.hid (show Fd w W3 ob (.slice none 0 0) [] W3 from ⟨by rw [← hW3, hob]; exact (Blk.new w3 46 _).alloc _, Near.refl _ _ _, World.ownsRow_nil _ _ _ _, fun y hy => by cases hy⟩)
  have HBS := Lib.hid (show Blk W3 (ob + 1) 46 #[.slice D 0 k] by rw [← hW3, hob]; have := Blk.new (w3.alloc (.cells #[.slice none 0 0] 46)) 46 #[.slice D 0 k]; simpa using this)
  have HR2 := Lib.hid (HR2.out.below hb43 (by omega))
  have HR3 := Lib.hid (HR3.out.below hb43 (by omega))
  have HBW := Lib.hid (bthen HB3.out hb43)
  have hob1 : w.heap.size + 2 ≤ ob := by omega
  rw [hW3, ← hob]
  clear hW3 hob hb43 HB3 HB2 HB1 hs3 hs2 hs1
  refine range_rec (by omega) (gf := 88) (lb := #[.pointer (some ⟨ob + 1, 0, none⟩)]) rfl (enters_of Tryz.func88 (by kernel_rfl) rfl) ?_
  intro fn rec hrec
  rw [hsz3] at hrec ⊢
  have hBS2 : Blk ((W3.alloc (.deferred (some []))).alloc (.loop (rec .ready none))) (ob + 1) 46 #[.slice D 0 k] := (HBS.out.alloc _).alloc _
  have hc1 := hBS2.cell 0
  simp at hc1
  refine CallsIn.mono (keys_zero 8 (ob + 2 + 1) (ob + 1) k D _ (by simpa using hBS2.cell 0)) ?_
  have hL0 : ((W3.alloc (.deferred (some []))).alloc (.loop (rec .ready none))).heap[ob + 2 + 1]? = some (.loop (rec .ready none)) := by
    have := World.alloc_heap_new (W3.alloc (.deferred (some []))) (.loop (rec .ready none))
    rw [World.size_alloc, hsz3] at this
    exact this
  have hD0 : ((W3.alloc (.deferred (some []))).alloc (.loop (rec .ready none))).heap[ob + 2]? = some (.deferred (some [])) := by
    have := World.alloc_heap_new W3 (.deferred (some []))
    rw [hsz3] at this
    exact (Below.heap_alloc _ _ _ (by simp; omega)).trans this
  have hF0 : Fd w W3 ob (.slice none 0 0) [] ((W3.alloc (.deferred (some []))).alloc (.loop (rec .ready none))) := (HFD.out.none (by omega) (World.grownBy_alloc _ _ none)).none (by simp; omega) (World.grownBy_alloc _ _ none)
  generalize (W3.alloc (.deferred (some []))).alloc (.loop (rec .ready none)) = WW at hL0 hD0 hF0
  clear hBS2 hc1
  rintro e W' ⟨rfl, rfl⟩
  refine ⟨⟨_, rfl⟩, ?_⟩
  obtain ⟨Y, hY0⟩ : ∃ Y : List RZ, Y = [] := ⟨_, rfl⟩
  obtain ⟨v, hv0⟩ : ∃ v : Value, v = .slice none 0 0 := ⟨_, rfl⟩
  have hYL : Y.length = 0 := by rw [hY0]; rfl
  have hfd : Fd w W3 ob v Y W' := by rw [hY0, hv0]; exact hF0
  have hL := hL0
  have hD := hD0
  refine .inl ⟨hL, ?_⟩
  obtain ⟨V, hV⟩ : ∃ V, W'.putObj (ob + 2 + 1) (.loop (rec .exhausted none)) = V := ⟨_, rfl⟩
  rw [hV]
  have HFD := Lib.hid (show Fd w W3 ob v Y V by rw [← hV]; exact hfd.loop hL (by omega) _)
  have HDF := Lib.hid (show V.heap[ob + 2]? = some (.deferred (some [])) by rw [← hV]; exact (World.putObj_heap_other (by omega)).trans hD)
  have HFL := Lib.hid (show foldL [] = (Y.map Prod.snd, 0) from by rw [hY0]; rfl)
  have HYL := Lib.hid hYL
  clear hYL hY0 hv0
  have HBV := Lib.hid (HBW.out.trans (HFD.out.near.below (by omega) (by omega)) : Below w.heap.size w V)
  have HQ2 := Lib.hid (show Blk V w.heap.size 46 #[.slice none 0 0] from (HFD.out.near.block _ (by omega) (by omega)).trans HR2.out)
  have HQ3 := Lib.hid (show Blk V (w.heap.size + 1) 34 #[.int .i64 0] from (HFD.out.near.block _ (by omega) (by omega)).trans HR3.out)
  have b0 := HFD.out.b.cell 0
  simp at b0
  obtain ⟨hYn, vA, vc, rfl, hvr, hvc, hvm, hvn⟩ := own_sliceR HFD.out.own
  have hgy : ∀ y ∈ Y, Good V y := fun y hy => (HFD.out.ys y hy).elim (fun h => h.keep HBV.out) (fun h => h.good)
  have HCC := Lib.hid (copy_any vA Y.length vc Y V ⟨hvr, hgy⟩ rfl (by have := HYL.out; omega))
  have hdV : ob + 2 < V.heap.size := lt_of_heap HDF.out
  clear hfd hL hD hL0 hD0 hF0 hV hrec hvr hvc hvm hvn hgy hYn
  gi_wp2
  refine ⟨trivial, (callsIn_wide.2 HCC.out).mono ?_⟩
  clear HCC
  rintro e9 w9 ⟨v9, Y9, rfl, ho9, hm9, hy9, hb9⟩
  obtain ⟨A9, c9, rfl⟩ := own_is ho9
  have HO9 := Lib.hid ho9
  have HM9 := Lib.hid hm9
  have HY9 := Lib.hid hy9
  have HQ2 := Lib.hid (HQ2.out.below hb9 (by omega))
  have HQ3 := Lib.hid (HQ3.out.below hb9 (by omega))
  have HD9 := Lib.hid (show w9.heap[ob + 2]? = some (.deferred (some [])) from (hb9.block _ hdV).trans HDF.out)
  have HB9 := Lib.hid (HBV.out.trans (hb9.mono HBV.out.size))
  have hwV : w.heap.size + 2 ≤ V.heap.size := by omega
  have b2 := HQ2.out.cell 0
  have f2 := HQ2.out.frozen 0
  have b3 := HQ3.out.cell 0
  have f3 := HQ3.out.frozen 0
  simp at b2 b3
  clear ho9 hm9 hy9 hb9 b0
  gi_wp2
  obtain ⟨we, hwe⟩ : ∃ we, we = (w9.setCell ⟨w.heap.size, 0, none⟩ (.slice A9 Y.length c9)).setCell ⟨w.heap.size + 1, 0, none⟩ (.int .i64 0) := ⟨_, rfl⟩
  have q2 : Blk we w.heap.size 46 #[.slice A9 Y.length c9] := by rw [hwe]; have h := (HQ2.out.set_ 0 (.slice A9 Y.length c9)).far (p := ⟨w.heap.size + 1, 0, none⟩) (by simp) (.int .i64 0); simpa using h
  have q3 : Blk we (w.heap.size + 1) 34 #[.int .i64 0] := by rw [hwe]; have h := (HQ3.out.far (p := ⟨w.heap.size, 0, none⟩) (by simp) (.slice A9 Y.length c9)).set_ 0 (.int .i64 0); simpa using h
  have qD : we.heap[ob + 2]? = some (.deferred (some [])) := by rw [hwe]; exact (Below.heap_setCell _ _ _ _ (by simp; omega)).trans ((Below.heap_setCell _ _ _ _ (by simp; omega)).trans HD9.out)
  have qB : Below w.heap.size w we := by rw [hwe]; exact bset (bset HB9.out (Nat.le_refl _) _) (by omega) _
  have q3' := HQ3.out.far (p := ⟨w.heap.size, 0, none⟩) (by simp) (.slice A9 Y.length c9)
  have qO : we.ownsRow V.heap.size 59 4 (.slice A9 Y.length c9) Y.length (cellsR Y9) := by
    rw [hwe]
    have h1 := own_set' (o := 0) (u := .slice A9 Y.length c9) HO9.out (HO9.out.not_blk HQ2.out (by decide))
    exact own_set' h1 (h1.not_blk q3' (by decide))
  have qY : ∀ y ∈ Y9, Owned V.heap.size we y := fun y hy => by
    rw [hwe]
    exact ((HY9.out y hy).setB HQ2.out (by decide) (by decide)).setB q3' (by decide) (by decide)
  have hl9 : Y9.length = Y.length := by have := congrArg List.length HM9.out; simpa using this
  rw [← hwe]
  clear hwe q3' b2 b3 f2 f3
  refine ⟨by simp, .inl ⟨_, _, rfl, run_takeDeferred qD, ?_⟩⟩
  obtain ⟨wf, hwf⟩ : ∃ wf, wf = we.putObj (ob + 2) (.deferred none) := ⟨_, rfl⟩
  have hgf : we.grownBy wf (some (ob + 2)) := by rw [hwf]; exact grownBy_putObj' _ _ _
  have c2 := (q2.grown hgf (fun e => by have := Option.some.inj e; omega)).cell 0
  have c3 := (q3.grown hgf (fun e => by have := Option.some.inj e; omega)).cell 0
  simp at c2 c3
  rw [← hwf]
  refine ⟨.tuple #[.slice A9 Y.length c9, .int .i64 0], by simp [results, Tryz.results24, go_sem, c2, c3], ?_⟩
  refine ⟨_, Y9, 0, [], rfl, SortsTo.nil, by rw [HFL.out, HM9.out], ?_, ?_, qB.grown hgf qB.size (fun k e => by cases e; omega)⟩
  · rw [hl9]; exact own_less (qO.kept hgf (.inr (own_not_def qO qD))) HBV.out.size
  · exact fun y hy => ((qY y hy).grown hgf (fun g e => by cases e; exact ⟨own_not_def (qY y hy).d qD, own_not_def (qY y hy).g qD⟩)).less HBV.out.size
end Go.Proofs.YtmmeekmiildliaaGreatDoor
namespace Go.Proofs.YtmmeekmiildliaaGreatDoor
open Go.RowKit Go.Shelf
set_option linter.unusedSimpArgs false
set_option linter.unusedVariables false
theorem fold_any (A : Option Addr) (n c : Nat) (Z : List RZ) (w : World) (hA : RowsC w A Z) (hn : n = Z.length) (hnc : n ≤ c) (ha : A = none → c = 0) (h19 : n ≤ 1000000) (hct : ∀ z ∈ Z, 0 ≤ z.2.count ∧ z.2.count ≤ 1048576) :
    Calls Tryz.prog 24 #[.slice A n c] w (FoldPost w Z) := by
  rcases Nat.eq_zero_or_pos n with h0 | h0
  · have hZ : Z = [] := List.eq_nil_of_length_eq_zero (by omega)
    subst hZ h0
    exact fold_zero A c w ha
  · exact fold_many A n c Z w hA hn hnc ha h0 h19 hct
theorem rowok_q {p q : Nat} {a : RV} (h : rowOk p q a.t a.count a.dims a.aggs) : RowQ q p a :=
  ⟨⟨by have := h.2.2.2.2.1; omega, h.2.2.2.2.2.1, h.2.1, h.2.2.2.2.2.2.2⟩, h.1⟩
theorem sorted_iff {p q : Nat} {K : List RV} (h : ∀ a ∈ K, RowQ q p a) : (∀ i (h : i + 1 < K.length), lessK (K[i]).t (K[i + 1]).t (K[i]).dims (K[i + 1]).dims = true) ↔ (∀ i (h : i + 1 < K.length), cmpK (K[i]).t (K[i + 1]).t (K[i]).dims (K[i + 1]).dims < 0) := by
  have e : ∀ i (hi : i + 1 < K.length), lessK (K[i]).t (K[i + 1]).t (K[i]).dims (K[i + 1]).dims = true ↔ cmpK (K[i]).t (K[i + 1]).t (K[i]).dims (K[i + 1]).dims < 0 := fun i hi => by
    rw [lessK_cmpK _ _ _ _ ((h _ (List.getElem_mem (by omega))).dims.trans (h _ (List.getElem_mem hi)).dims.symm)]
    simp
  exact ⟨fun g i hi => (e i hi).1 (g i hi), fun g i hi => (e i hi).2 (g i hi)⟩
end Go.Proofs.YtmmeekmiildliaaGreatDoor
