/- symMergeCmpFunc, whole. -/
import Derived.Test.YtkfcpmmiimpkbaaSE
import Derived.Deep.DeepCutAuto
namespace Go.Proofs.Ytkfcpmmiimpkbaa
open Go.RowKit Go.Shelf
open Go.Sort hiding Below
set_option linter.unusedSimpArgs false
set_option linter.unusedVariables false
set_option maxRecDepth 1000000 in
set_option maxHeartbeats 32000000 in
theorem sym_any (k4 : Nat) (hk4 : k4 = 4) (w0 w : World) (blk off cap n : Nat) (d0 : Array (GZ w0)) (R : RowK (encG w0) k4 w blk off d0) (hC : CmpLays Try.prog 50 #[] (encG w0) k4 (cfG w0) blk off d0.size w) (hs0 : d0.size = n) (hn : n ≤ 1000000) :
    ∀ (N : Nat) (W : World) (a b m : Nat) (az bz mz : Int) (P A B S : List (GZ w0)), A.length + B.length ≤ N → SwSt k4 w0 w blk off (P ++ (A ++ (B ++ S))) W → (P ++ (A ++ (B ++ S))).length = n → P.length = a → a + A.length = m → m + B.length = b → 1 ≤ A.length → 1 ≤ B.length → SortedF (fG w0) A → SortedF (fG w0) B → az = a → mz = m → bz = b →
    Calls Try.prog 79 #[.slice (some ⟨blk, off, none⟩) n cap, .int .i64 az, .int .i64 mz, .int .i64 bz, .func (.func 50) #[] #[]] W (SymPost k4 w0 w blk off P A B S) := by
  intro N
  induction N with
  | zero => intro W a b m az bz mz P A B S hN _ _ _ _ _ h1 _ _ _ _ _ _; omega
  | succ N ih =>
    intro W a b m az bz mz P A B S hN hW hL hP hA hB hA1 hB1 hAs hBs haz hmz hbz
    subst haz hmz hbz
    by_cases hl1 : A.length = 1
    · obtain ⟨x, rfl⟩ := List.length_eq_one_iff.1 hl1
      exact sym_first k4 hk4 w0 w W blk off cap n a b m d0 R hC hs0 hn P B S x hW hL hP (by simpa using hA) hB hB1 hBs
    by_cases hl2 : B.length = 1
    · obtain ⟨y, rfl⟩ := List.length_eq_one_iff.1 hl2
      exact sym_last k4 hk4 w0 w W blk off cap n a b m d0 R hC hs0 hn P A S y hW hL hP hA (by simpa using hB) (by omega) hAs
    have HK4 := Lib.hid hk4
    obtain ⟨dk, hdl, hsw⟩ := hW
    have hds : dk.size = d0.size := by rw [len_list hdl, hL, hs0]
    have hzA : ∀ i (h : i < A.length), dk[a + i]! = A[i] := fun i h => at_app (P := P) (A := A) (S := B ++ S) hdl hP i h
    have hzB : ∀ i (h : i < B.length), dk[m + i]! = B[i] := fun i h => at_app (P := P ++ A) (A := B) (S := S) (d := dk) (a := m) (by rw [hdl]; simp) (by simp; omega) i h
    have hbn : b ≤ n := by simp at hL; omega
    obtain ⟨mid, hmid⟩ : ∃ mid, mid = (a + b) / 2 := ⟨_, rfl⟩
    obtain ⟨s0, hs0'⟩ : ∃ s0, s0 = if mid < m then mid + m - b else a := ⟨_, rfl⟩
    obtain ⟨r0, hr0'⟩ : ∃ r0, r0 = if mid < m then mid else m := ⟨_, rfl⟩
    obtain ⟨nn, hnn⟩ : ∃ nn, nn = mid + m := ⟨_, rfl⟩
    obtain ⟨p, hp⟩ : ∃ p, p = nn - 1 := ⟨_, rfl⟩
    have hm1 : a < mid := by omega
    have hm2 : mid < b := by omega
    have hsr : s0 ≤ r0 := by rw [hs0', hr0']; split <;> omega
    have hs0a : a ≤ s0 := by rw [hs0']; split <;> omega
    have hr0m : r0 ≤ m := by rw [hr0']; split <;> omega
    have hr0d : r0 ≤ mid := by rw [hr0']; split <;> omega
    have hs0n : nn ≤ b + s0 := by rw [hs0']; split <;> omega
    have HZA := Lib.hid hzA
    have HZB := Lib.hid hzB
    have HDL := Lib.hid hdl
    have HDS := Lib.hid hds
    have HSW := Lib.hid hsw
    have HCM := Lib.hid hC
    have HAS := Lib.hid hAs
    have HBS := Lib.hid hBs
    have HLN := Lib.hid hL
    have HPL := Lib.hid hP
    have HS0 := Lib.hid hs0
    have HSD := Lib.hid hs0'
    have HRD := Lib.hid hr0'
    have HIH := Lib.hid ih
    have HMID := Lib.hid hmid
    have HNN := Lib.hid (And.intro hnn hp)
    have HNL := Lib.hid hN
    have hal : a + A.length = m := hA
    have hbl : m + B.length = b := hB
    have hA2 : 2 ≤ A.length := by omega
    have hB2 : 2 ≤ B.length := by omega
    have em : ((a : Int) + (b : Int)) / 2 = (mid : Int) := by omega
    have en : (mid : Int) + (m : Int) = (nn : Int) := by omega
    have ep : (nn : Int) - 1 = (p : Int) := by omega
    have hnb : nn ≤ 2 * b := by omega
    have hpn : p + 1 = nn := by omega
    have q1 : ¬ (m : Int) - (a : Int) = 1 := by omega
    have q2 : ((m : Int) - (a : Int) == 1) = false := by simp; omega
    have q3 : ¬ (b : Int) - (m : Int) = 1 := by omega
    have q4 : ((b : Int) - (m : Int) == 1) = false := by simp; omega
    clear hdl hsw hds hzA hzB hC hAs hBs hL hP hs0 hA hB hl1 hl2 ih hmid hnn hp hN hk4 hs0' hr0'
    go_enter Try.func79, Try.ntmps79
    go_upto_if 140 with fail
    go_cut [20, 21] (fun s20 s21 wx => s20 = .int .i64 s0 ∧ s21 = .int .i64 r0 ∧ wx = W)
    case first =>
      by_cases hmm : mid < m
      · have hmz : (mid : Int) < (m : Int) := by omega
        go_wp2_with fail
        go_meet
        case rel =>
          have e1 := HSD.out
          have e2 := HRD.out
          rw [if_pos hmm] at e1 e2
          have e3 := HNN.out.1
          exact ⟨by first | rfl | go_num | (congr 1; omega), by rw [e2], rfl⟩
      · have hmz : ¬ (mid : Int) < (m : Int) := by omega
        go_wp2_with fail
        go_meet
        case rel =>
          have e1 := HSD.out
          have e2 := HRD.out
          rw [if_neg hmm] at e1 e2
          exact ⟨by rw [e1], by rw [e2], rfl⟩
    case rest =>
    obtain ⟨rfl, rfl, rfl⟩ := hcut
    go_wp2_with fail
    go_loopw [20, 21] (fun vi vj wr => ∃ s r : Nat, vi = .int .i64 s ∧ vj = .int .i64 r ∧ s0 ≤ s ∧ s ≤ r ∧ r ≤ r0 ∧ Hid (Sy (fG w0) (fun i => dk[i]!) s0 r0 p s r) ∧ Hid (SWK (encG w0) k4 w blk off dk wr)) (fun vi vj _ => (intOf vj).toNat - (intOf vi).toNat)
    case atStart => exact ⟨s0, r0, rfl, rfl, Nat.le_refl _, hsr, Nat.le_refl _, Lib.hid (Sy.start _ hsr), HSW⟩
    case round =>
      clear HSW
      obtain ⟨s, r, rfl, rfl, hss, hsr2, hrr, HSY, HSW⟩ := hrel
      by_cases hlt : s < r
      · have hltz : (s : Int) < (r : Int) := by omega
        obtain ⟨c, hc0⟩ : ∃ c, c = (s + r) / 2 := ⟨_, rfl⟩
        have ec : ((s : Int) + (r : Int)) / 2 = (c : Int) := by omega
        have hsc : s ≤ c := by omega
        have hcr : c < r := by omega
        obtain ⟨q, hq0⟩ : ∃ q, q = p - c := ⟨_, rfl⟩
        have hqz : (p : Int) - (c : Int) = (q : Int) := by omega
        have hqn : q < n := by omega
        have HQ := Lib.hid hq0
        have tq : ((q : Nat) : Int).toNat = q := by omega
        have pq : (0 : Int) ≤ (q : Int) := by omega
        have bq : (q : Int) < (n : Int) := by omega
        have wq : IntKind.i64.wrap (q : Int) = (q : Int) := by rw [IntKind.wrap_i64]; omega
        have tc : ((c : Nat) : Int).toNat = c := by omega
        have pc : (0 : Int) ≤ (c : Int) := by omega
        have bc : (c : Int) < (n : Int) := by omega
        obtain ⟨xa, hxa⟩ : ∃ y, y = dk[q]! := ⟨_, rfl⟩
        obtain ⟨xb, hxb⟩ : ∃ y, y = dk[c]! := ⟨_, rfl⟩
        have HQA := Lib.hid hxa.symm
        have HQB := Lib.hid hxb.symm
        clear hxa hxb hc0 hq0
        by_cases hlv : cfG w0 xa xb < 0
        · as_aux_lemma =>
          have hd : decide (cfG w0 xa xb < 0) = true := decide_eq_true hlv
          have HN := Lib.hid (show Sy (fG w0) (fun i => dk[i]!) s0 r0 p s c from HSY.out.down hsc hcr (by show cmpV (fG w0 dk[p - c]!) (fG w0 dk[c]!) < 0; rw [← HQ.out, HQA.out, HQB.out]; exact hlv))
          have l1 := HSW.out.ld R HDS.out Try.prog q (by rw [HDS.out, HS0.out]; omega)
          have l2 := HSW.out.ld R HDS.out Try.prog c (by rw [HDS.out, HS0.out]; omega)
          rw [HQA.out] at l1
          rw [HQB.out] at l2
          have hc := HSW.out.cmp HCM.out HDS.out xa xb
          have eg : ∀ args w, (callFunc 50 args).run Try.prog w = .ok (.enter 50 args) w := enters_of Try.func50 (by kernel_rfl) rfl
          have mixed : Try.prog.follows .mixedOrders = true := by kernel_rfl
          have u41 := run_underlying Try.underlying25
          have t3 := Try.underlying3; have a3 := fun w => Try.isAgg3 w; have z3 := fun w => Try.sizeOf3 w
          have t4 := Try.underlying4; have a4 := fun w => Try.isAgg4 w; have z4 := fun w => Try.sizeOf4 w
          have t41 := Try.underlying25; have a41 := fun w => Try.isAgg25 w; have z41 := fun w => Try.sizeOf25 w
          have t45 := Try.underlying73; have a45 := fun w => Try.isAgg73 w; have z45 := fun w => Try.sizeOf73 w
          have aE : ∀ w, (isAgg 45).run Try.prog w = .ok true w := fun w => Try.isAgg45 w
          have zE : ∀ w, (Go.sizeOf 45).run Try.prog w = .ok k4 w := fun w => by rw [HK4.out]; exact Try.sizeOf45 w
          have n1 : (encG w0 xa).length = k4 := R.hk _
          have n2 : (encG w0 xb).length = k4 := R.hk _
          have HX1 := Lib.hid n1
          clear n1 n2
          go_wp2_with fail
          generalize Try.prog = P at mixed u41 t3 a3 z3 t4 a4 z4 t41 a41 z41 t45 a45 z45 aE zE eg hc l1 l2 ⊢
          go_quiet_grown (first | (go_at_fn 50; refine Calls.grown_of (hc _ _)))
          have SU2 := Lib.hid (HSW.out.grown nq osq)
          clear mixed u41 t3 a3 z3 t4 a4 z4 t41 a41 z41 t45 a45 z45 aE zE eg hc l1 l2 HSW
          generalize grow (wr.drewN nq) osq = wu2 at SU2 ⊢
          clear nq osq
          go_wp2
          go_roundw
          case rel => exact ⟨s, c, rfl, rfl, hss, hsc, by omega, HN, SU2⟩
          case measure => simp [intOf]; omega
        · as_aux_lemma =>
          have hd : decide (cfG w0 xa xb < 0) = false := decide_eq_false hlv
          have HN := Lib.hid (show Sy (fG w0) (fun i => dk[i]!) s0 r0 p (c + 1) r from HSY.out.up hsc hcr (by show ¬ cmpV (fG w0 dk[p - c]!) (fG w0 dk[c]!) < 0; rw [← HQ.out, HQA.out, HQB.out]; exact hlv))
          have l1 := HSW.out.ld R HDS.out Try.prog q (by rw [HDS.out, HS0.out]; omega)
          have l2 := HSW.out.ld R HDS.out Try.prog c (by rw [HDS.out, HS0.out]; omega)
          rw [HQA.out] at l1
          rw [HQB.out] at l2
          have hc := HSW.out.cmp HCM.out HDS.out xa xb
          have eg : ∀ args w, (callFunc 50 args).run Try.prog w = .ok (.enter 50 args) w := enters_of Try.func50 (by kernel_rfl) rfl
          have mixed : Try.prog.follows .mixedOrders = true := by kernel_rfl
          have u41 := run_underlying Try.underlying25
          have t3 := Try.underlying3; have a3 := fun w => Try.isAgg3 w; have z3 := fun w => Try.sizeOf3 w
          have t4 := Try.underlying4; have a4 := fun w => Try.isAgg4 w; have z4 := fun w => Try.sizeOf4 w
          have t41 := Try.underlying25; have a41 := fun w => Try.isAgg25 w; have z41 := fun w => Try.sizeOf25 w
          have t45 := Try.underlying73; have a45 := fun w => Try.isAgg73 w; have z45 := fun w => Try.sizeOf73 w
          have aE : ∀ w, (isAgg 45).run Try.prog w = .ok true w := fun w => Try.isAgg45 w
          have zE : ∀ w, (Go.sizeOf 45).run Try.prog w = .ok k4 w := fun w => by rw [HK4.out]; exact Try.sizeOf45 w
          have n1 : (encG w0 xa).length = k4 := R.hk _
          have n2 : (encG w0 xb).length = k4 := R.hk _
          have HX1 := Lib.hid n1
          clear n1 n2
          go_wp2_with fail
          generalize Try.prog = P at mixed u41 t3 a3 z3 t4 a4 z4 t41 a41 z41 t45 a45 z45 aE zE eg hc l1 l2 ⊢
          go_quiet_grown (first | (go_at_fn 50; refine Calls.grown_of (hc _ _)))
          have SU2 := Lib.hid (HSW.out.grown nq osq)
          clear mixed u41 t3 a3 z3 t4 a4 z4 t41 a41 z41 t45 a45 z45 aE zE eg hc l1 l2 HSW
          generalize grow (wr.drewN nq) osq = wu2 at SU2 ⊢
          clear nq osq
          go_wp2
          go_roundw
          case rel => exact ⟨c + 1, r, by go_num, rfl, by omega, by omega, hrr, HN, SU2⟩
          case measure => simp [intOf]; omega
      · have hltz : ¬ (s : Int) < (r : Int) := by omega
        obtain rfl : s = r := by omega
        have hf := (show Sy (fG w0) (fun i => dk[i]!) s0 r0 (mid + m - 1) s s by
          have h1 := HNN.out.1
          have h2 := HNN.out.2
          rw [← h1, ← h2]; exact HSY.out).found HAS.out HBS.out hal hbl HMID.out (by omega) (by omega) HSD.out HRD.out HZA.out HZB.out
        rw [← HNN.out.1] at hf
        obtain ⟨f1, f2, f3, f4, f5, f6, f7⟩ := hf
        obtain ⟨ee, hee⟩ : ∃ ee, ee = nn - s := ⟨_, rfl⟩
        have eez : (nn : Int) - (s : Int) = (ee : Int) := by omega
        obtain ⟨A1, hA1'⟩ : ∃ A1, A1 = A.take (s - a) := ⟨_, rfl⟩
        obtain ⟨A2, hA2'⟩ : ∃ A2, A2 = A.drop (s - a) := ⟨_, rfl⟩
        obtain ⟨B1, hB1'⟩ : ∃ B1, B1 = B.take (mid - s) := ⟨_, rfl⟩
        obtain ⟨B2, hB2'⟩ : ∃ B2, B2 = B.drop (mid - s) := ⟨_, rfl⟩
        rw [← hB1', ← hA2'] at f6
        rw [← hA1', ← hB2'] at f7
        have eA : A1 ++ A2 = A := by rw [hA1', hA2']; exact List.take_append_drop _ _
        have eB : B1 ++ B2 = B := by rw [hB1', hB2']; exact List.take_append_drop _ _
        have hnm : nn = mid + m := HNN.out.1
        have g1 : A1.length = s - a := by rw [hA1']; simp; omega
        have g2 : A2.length = m - s := by rw [hA2']; simp; omega
        have g3 : B1.length = ee - m := by rw [hB1']; simp; omega
        have g4 : B2.length = b - ee := by rw [hB2']; simp; omega
        have HA12 := Lib.hid (show SortedF (fG w0) (A1 ++ A2) by rw [eA]; exact HAS.out)
        have HB12 := Lib.hid (show SortedF (fG w0) (B1 ++ B2) by rw [eB]; exact HBS.out)
        have hlen0 : (P ++ (A1 ++ (A2 ++ (B1 ++ (B2 ++ S))))).length = n := by
          rw [← HLN.out, ← eA, ← eB]; simp
        have hPa := HPL.out
        have hNN := HNL.out
        have hAB : A1.length + B1.length ≤ N ∧ A2.length + B2.length ≤ N := by omega
        -- the first step
        have HC0 := Lib.hid (show SwSt k4 w0 w blk off (P ++ (A1 ++ (A2 ++ (B1 ++ (B2 ++ S))))) wr from ⟨dk, by rw [HDL.out, ← eA, ← eB]; simp, HSW.out⟩)
        have HR1 := Lib.hid (show s < m → m < ee → Calls Try.prog 84 #[.slice (some ⟨blk, off, none⟩) n cap, .int .i64 s, .int .i64 m, .int .i64 ee, .func (.func 50) #[] #[]] wr (fun e W' => e = .returned (.tuple #[]) ∧ SwSt k4 w0 w blk off (P ++ (A1 ++ (B1 ++ (A2 ++ (B2 ++ S))))) W') from fun h1 h2 => by
          have := rotate_any k4 HK4.out w0 w wr blk off cap n s ee m s ee m d0 R HS0.out hn (P ++ A1) A2 B1 (B2 ++ S) (by rw [List.append_assoc]; exact HC0.out) (by rw [List.append_assoc]; exact hlen0) (by simp; omega) (by omega) (by omega) (by omega) (by omega) rfl rfl rfl
          rw [List.append_assoc] at this
          exact this)
        have HR1n := Lib.hid (show ¬ (s < m ∧ m < ee) → SwSt k4 w0 w blk off (P ++ (A1 ++ (B1 ++ (A2 ++ (B2 ++ S))))) wr from fun h => by
          rcases Nat.lt_or_ge s m with h1 | h1
          · have e : B1 = [] := List.eq_nil_of_length_eq_zero (by omega)
            have := HC0.out
            rw [e] at this ⊢
            exact this
          · have e : A2 = [] := List.eq_nil_of_length_eq_zero (by omega)
            have := HC0.out
            rw [e] at this ⊢
            exact this)
        have hlen1 : (P ++ (A1 ++ (B1 ++ (A2 ++ (B2 ++ S))))).length = n := by rw [← hlen0]; simp; omega
        have HR2 := Lib.hid (show ∀ W', SwSt k4 w0 w blk off (P ++ (A1 ++ (B1 ++ (A2 ++ (B2 ++ S))))) W' → a < s → s < mid → Calls Try.prog 79 #[.slice (some ⟨blk, off, none⟩) n cap, .int .i64 a, .int .i64 s, .int .i64 mid, .func (.func 50) #[] #[]] W' (SymPost k4 w0 w blk off P A1 B1 (A2 ++ (B2 ++ S))) from fun W' h h1 h2 =>
          HIH.out W' a mid s a mid s P A1 B1 (A2 ++ (B2 ++ S)) hAB.1 h hlen1 hPa (by omega) (by omega) (by omega) (by omega) HA12.out.left HB12.out.left rfl rfl rfl)
        have HR2n := Lib.hid (show ∀ W', SwSt k4 w0 w blk off (P ++ (A1 ++ (B1 ++ (A2 ++ (B2 ++ S))))) W' → ¬ (a < s ∧ s < mid) → ∃ M, SwSt k4 w0 w blk off (P ++ (M ++ (A2 ++ (B2 ++ S)))) W' ∧ SortedF (fG w0) M ∧ SameF (fG w0) (A1 ++ B1) M from fun W' h h1 => by
          refine ⟨A1 ++ B1, by rw [List.append_assoc]; exact h, ?_, SameF.refl _⟩
          rcases Nat.lt_or_ge a s with h2 | h2
          · have e : B1 = [] := List.eq_nil_of_length_eq_zero (by omega)
            rw [e, List.append_nil]; exact HA12.out.left
          · have e : A1 = [] := List.eq_nil_of_length_eq_zero (by omega)
            rw [e, List.nil_append]; exact HB12.out.left)
        have HR3 := Lib.hid (show ∀ (L : List (GZ w0)) W', SameF (fG w0) (A1 ++ B1) L → SwSt k4 w0 w blk off (P ++ (L ++ (A2 ++ (B2 ++ S)))) W' → mid < ee → ee < b → Calls Try.prog 79 #[.slice (some ⟨blk, off, none⟩) n cap, .int .i64 mid, .int .i64 ee, .int .i64 b, .func (.func 50) #[] #[]] W' (SymPost k4 w0 w blk off (P ++ L) A2 B2 S) from fun L W' hl h h1 h2 => by
          have hll := hl.length
          rw [List.length_append] at hll
          exact HIH.out W' mid b ee mid b ee (P ++ L) A2 B2 S hAB.2 (by rw [List.append_assoc]; exact h) (by rw [← hlen1]; simp; omega) (by simp; omega) (by omega) (by omega) (by omega) (by omega) HA12.out.right HB12.out.right rfl rfl rfl)
        have HR3n := Lib.hid (show ∀ (L : List (GZ w0)) W', SwSt k4 w0 w blk off (P ++ (L ++ (A2 ++ (B2 ++ S)))) W' → ¬ (mid < ee ∧ ee < b) → ∃ M, SwSt k4 w0 w blk off ((P ++ L) ++ (M ++ S)) W' ∧ SortedF (fG w0) M ∧ SameF (fG w0) (A2 ++ B2) M from fun L W' h h1 => by
          refine ⟨A2 ++ B2, by simpa using h, ?_, SameF.refl _⟩
          rcases Nat.lt_or_ge mid ee with h2 | h2
          · have e : B2 = [] := List.eq_nil_of_length_eq_zero (by omega)
            rw [e, List.append_nil]; exact HA12.out.right
          · have e : A2 = [] := List.eq_nil_of_length_eq_zero (by omega)
            rw [e, List.nil_append]; exact HB12.out.right)
        have HEND := Lib.hid (show ∀ (L R : List (GZ w0)) W', SortedF (fG w0) L → SameF (fG w0) (A1 ++ B1) L → SortedF (fG w0) R → SameF (fG w0) (A2 ++ B2) R → SwSt k4 w0 w blk off ((P ++ L) ++ (R ++ S)) W' → ∃ M, SwSt k4 w0 w blk off (P ++ (M ++ S)) W' ∧ SortedF (fG w0) M ∧ SameF (fG w0) (A ++ B) M from fun L R W' h1 h2 h3 h4 h5 => by
          have hm := merge_two HA12.out HB12.out f6 f7 h1 h2 h3 h4
          rw [eA, eB] at hm
          exact ⟨L ++ R, by simpa using h5, hm.1, hm.2⟩)
        clear f6 f7 hA1' hA2' hB1' hB2' eA eB g1 g2 g3 g4 HA12 HB12 hlen0 hlen1 hPa hNN hAB HSW HSY HC0 hnm f5 hee
        obtain ⟨b1, hb1⟩ : ∃ b1, b1 = decide (s < m ∧ m < ee) := ⟨_, rfl⟩
        have Hb1 := Lib.hid hb1
        clear hb1
        go_upto_region 39 with fail
        go_cut [185] (fun sl wx => sl = .bool b1 ∧ wx = wr)
        case first => as_aux_lemma =>
          have e := Hb1.out
          by_cases h1 : s < m
          · have h1z : (s : Int) < (m : Int) := by omega
            by_cases h2 : m < ee
            · have h2z : (m : Int) < (ee : Int) := by omega
              rw [decide_eq_true (And.intro h1 h2)] at e
              clear h1 h2
              go_wp2_with fail
              go_meet
              case rel => exact ⟨by rw [e], rfl⟩
            · have h2z : ¬ (m : Int) < (ee : Int) := by omega
              rw [decide_eq_false (fun h => h2 h.2)] at e
              clear h1 h2
              go_wp2_with fail
              go_meet
              case rel => exact ⟨by rw [e], rfl⟩
          · have h1z : ¬ (s : Int) < (m : Int) := by omega
            rw [decide_eq_false (fun h => h1 h.1)] at e
            clear h1
            go_wp2_with fail
            go_meet
            case rel => exact ⟨by rw [e], rfl⟩
        case rest =>
        obtain ⟨rfl, rfl⟩ := hcut
        go_upto_if 185 with fail
        go_cut [] (fun wx => Hid (SwSt k4 w0 w blk off (P ++ (A1 ++ (B1 ++ (A2 ++ (B2 ++ S))))) wx))
        case first => as_aux_lemma =>
          cases b1 with
          | true =>
            have hb := of_decide_eq_true Hb1.out.symm
            have H := Lib.hid (HR1.out hb.1 hb.2)
            clear hb
            go_wp2_with (go_at_call 84; refine H.out.mono ?_; rintro e w' ⟨rfl, hq⟩)
            have HQ := Lib.hid hq
            clear hq
            go_wp2_with fail
            go_meet
            case rel => exact HQ
          | false =>
            have H := Lib.hid (HR1n.out (of_decide_eq_false Hb1.out.symm))
            go_wp2_with fail
            go_meet
            case rel => exact H
        case rest => as_aux_lemma =>
        have HS1 := hcut
        clear hcut HR1 HR1n
        obtain ⟨wd, hwd⟩ : ∃ wd, wd = wc := ⟨_, rfl⟩
        rw [← hwd] at HS1 ⊢
        clear hwd
        obtain ⟨b2, hb2⟩ : ∃ b2, b2 = decide (a < s ∧ s < mid) := ⟨_, rfl⟩
        have Hb2 := Lib.hid hb2
        clear hb2
        go_upto_region 41 with fail
        go_cut [199] (fun sl wx => sl = .bool b2 ∧ wx = wd)
        case first => as_aux_lemma =>
          have e := Hb2.out
          by_cases h1 : a < s
          · have h1z : (a : Int) < (s : Int) := by omega
            by_cases h2 : s < mid
            · have h2z : (s : Int) < (mid : Int) := by omega
              rw [decide_eq_true (And.intro h1 h2)] at e
              clear h1 h2
              go_wp2_with fail
              go_meet
              case rel => exact ⟨by rw [e], rfl⟩
            · have h2z : ¬ (s : Int) < (mid : Int) := by omega
              rw [decide_eq_false (fun h => h2 h.2)] at e
              clear h1 h2
              go_wp2_with fail
              go_meet
              case rel => exact ⟨by rw [e], rfl⟩
          · have h1z : ¬ (a : Int) < (s : Int) := by omega
            rw [decide_eq_false (fun h => h1 h.1)] at e
            clear h1
            go_wp2_with fail
            go_meet
            case rel => exact ⟨by rw [e], rfl⟩
        case rest =>
        obtain ⟨rfl, rfl⟩ := hcut
        go_upto_if 199 with fail
        go_cut [] (fun wx => Hid (∃ M, SwSt k4 w0 w blk off (P ++ (M ++ (A2 ++ (B2 ++ S)))) wx ∧ SortedF (fG w0) M ∧ SameF (fG w0) (A1 ++ B1) M))
        case first => as_aux_lemma =>
          cases b2 with
          | true =>
            have hb := of_decide_eq_true Hb2.out.symm
            have H := Lib.hid (HR2.out _ HS1.out hb.1 hb.2)
            clear hb
            go_wp2_with (go_at_call 79; refine H.out.mono ?_; rintro e w' ⟨rfl, hq⟩)
            have HQ := Lib.hid hq
            clear hq
            go_wp2_with fail
            go_meet
            case rel => exact HQ
          | false =>
            have H := Lib.hid (HR2n.out _ HS1.out (of_decide_eq_false Hb2.out.symm))
            go_wp2_with fail
            go_meet
            case rel => exact H
        case rest => as_aux_lemma =>
        obtain ⟨L, hL1, hL2, hL3⟩ := hcut.out
        have HL1 := Lib.hid hL1
        have HL2 := Lib.hid hL2
        have HL3 := Lib.hid hL3
        clear hL1 hL2 hL3 hcut HR2 HR2n HS1
        by_cases h1 : mid < ee
        · have h1z : (mid : Int) < (ee : Int) := by omega
          by_cases h2 : ee < b
          · have h2z : (ee : Int) < (b : Int) := by omega
            have H := Lib.hid (HR3.out L _ HL3.out HL1.out h1 h2)
            go_wp2_with (go_at_call 79; refine H.out.mono ?_; rintro e w' ⟨rfl, hq⟩)
            obtain ⟨M, m1, m2, m3⟩ := hq
            have HM := Lib.hid (HEND.out L M _ HL2.out HL3.out m2 m3 m1)
            clear m1 m2 m3
            go_wp2_with fail
            go_end0
            exact ⟨rfl, HM.out⟩
          · have h2z : ¬ (ee : Int) < (b : Int) := by omega
            obtain ⟨M, m1, m2, m3⟩ := HR3n.out L _ HL1.out (fun h => h2 h.2)
            have HM := Lib.hid (HEND.out L M _ HL2.out HL3.out m2 m3 m1)
            clear m1 m2 m3
            go_wp2_with fail
            go_end0
            exact ⟨rfl, HM.out⟩
        · have h1z : ¬ (mid : Int) < (ee : Int) := by omega
          obtain ⟨M, m1, m2, m3⟩ := HR3n.out L _ HL1.out (fun h => h1 h.1)
          have HM := Lib.hid (HEND.out L M _ HL2.out HL3.out m2 m3 m1)
          clear m1 m2 m3
          go_wp2_with fail
          go_end0
          exact ⟨rfl, HM.out⟩
end Go.Proofs.Ytkfcpmmiimpkbaa
