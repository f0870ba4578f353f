/- The document's Crash. -/
import Derived.Test.YtaahomohhagcoaaZH
import Derived.Lib.MinMax
namespace Go.Proofs.Ytaahomohhagcoaa
open Go.RowKit Go.Maps Go.Shelf Go.Lib
set_option linter.unusedSimpArgs false
set_option linter.unusedVariables false
theorem step_append_u8s {w : World} {o : Oper} {a : Act} {K : Act → World → Prop} {Q : Exit → Act → World → Prop} (s x : Operand)
    (ho : o.op = .call { callee := .builtin .append, args := #[s, x], argTypes := #[31, 31] })
    (base : Nat) (v : Value) (n : Nat) (xs : List Value) (hs : a.eval s = v) (A : Option Addr) (m c : Nat) (M : List Int) (hx : a.eval x = .slice A m c) (hown : w.ownsRow base 5 1 v n xs)
    (hrow : Row w A (u8s M)) (hm : m = M.length) (hmc : m ≤ c) (ha : A = none → c = 0) (h63 : (n + m) * 1 ≤ 140737488355328) (hbase : base ≤ w.heap.size)
    (h : ∀ v' w', w'.ownsRow base 5 1 v' (n + m) (xs ++ u8s M) → w.grownBy w' v.ownBlock → K (a.put o.dst v') w') :
    o.wp Try.prog a w K Q := by
  obtain ⟨v', w', hr, h2, h3, _⟩ := run_append_u8s w o.type base v n xs hown A m c M hrow hm hmc ha h63 hbase
  unfold Oper.wp execOp
  simp only [ho, resolve, invoke, builtin, Sem.run_bind, Sem.run_pure, Result.andThen_ok, List.map_toArray, List.map_cons, List.map_nil, hs, hx, hr]
  exact h v' w' h2 h3
theorem own_fr3 {w w' : World} {B : Nat} {e : TypeId} {s n : Nat} {v : Value} {xs : List Value} {S : Nat → Prop} (h : w.ownsRow B e s v n xs) (hf : Fr S w w') (hs : ∀ b, v.ownBlock = some b → ¬ S b) : w'.ownsRow B e s v n xs := own_fr2 h hf hs
def RCrashP (w : World) (P' : VZ) (e : Ending) (w' : World) : Prop :=
  ∃ a R', e = .returned (.pointer (some ⟨a, 0, none⟩)) ∧ RIs R' P' ∧ RRep w' a R' ∧ Below w.heap.size w w' ∧ w.heap.size ≤ a ∧ ∀ i, RRows R' i → w.heap.size ≤ i
/-- The files made so far. -/
structure CrSt (t : Int) (w wr : World) (o room j c : Nat) (A : Option Addr) (F G : List FZ) : Prop where
  blk : Blk wr o 60 #[.int .i64 room, .int .i64 (-1), .slice A j c]
  own : wr.ownsRow (w.heap.size + 1) 66 3 (.slice A j c) j (cellsF G)
  files : ∀ f ∈ G, OwnF wr (w.heap.size + 1) f
  map : G.map normF = (F.take j).map fun f => normF (chF (kC t) f)
  below : Below w.heap.size w wr
  size : w.heap.size + 1 ≤ wr.heap.size
set_option maxRecDepth 100000 in
set_option maxHeartbeats 32000000 in
theorem rcrash_any (t : Int) (a : Nat) (R : RV) (P : VZ) (w : World) (h : RRep w a R) (hi : RIs R P) (hp : PInv P) (ht1 : -9223372036854775808 ≤ t) (ht2 : t ≤ 9223372036854775807) : Calls Try.prog 16 #[.pointer (some ⟨a, 0, none⟩), .int .i64 t] w (RCrashP w (crashS t P)) := by
  have HH := Lib.hid h
  have HI := Lib.hid hi
  have HP := Lib.hid hp
  obtain ⟨A, hA⟩ : ∃ A, A = R.A := ⟨_, rfl⟩
  obtain ⟨n, hn⟩ : ∃ n, n = R.n := ⟨_, rfl⟩
  obtain ⟨c, hc⟩ : ∃ c, c = R.c := ⟨_, rfl⟩
  obtain ⟨rm, hrm⟩ : ∃ rm, rm = R.room := ⟨_, rfl⟩
  have HN := Lib.hid (show n = R.F.length by rw [hn]; exact h.len)
  have hnc : n ≤ c := by rw [hn, hc]; exact h.cap
  have hn9 : n ≤ 200 := by rw [HN.out]; exact hi.len2 hp
  have HA := Lib.hid hA
  have HRM := Lib.hid hrm
  have HCE := Lib.hid (fun W (hb : Below w.heap.size w W) => (show W.cell? ⟨a, 0, none⟩ = some (.int .i64 rm) ∧ W.cell? ⟨a, 2, none⟩ = some (.slice A n c) from by
    have hk := (HH.out.below hb).blk
    exact ⟨by rw [hrm]; simpa using hk.cell 0, by rw [hA, hn, hc]; simpa using hk.cell 2⟩))
  obtain ⟨w1, hw1⟩ : ∃ w1, w1 = w.alloc (.cells #[.int .i64 rm, .int .i64 (-1), .slice none 0 0] 60) := ⟨_, rfl⟩
  obtain ⟨o, ho⟩ : ∃ o, o = w.heap.size := ⟨_, rfl⟩
  have HST0 := Lib.hid (show CrSt t w w1 o rm 0 0 none R.F [] from ⟨by rw [hw1, ho]; exact Blk.new _ _ _, World.ownsRow_nil _ _ _ _, (fun f hf => by cases hf), rfl, by rw [hw1]; exact bpush (Below.refl _ _) _, by rw [hw1]; simp⟩)
  have HW1 := Lib.hid hw1
  have HO := Lib.hid ho
  obtain ⟨c0, _⟩ := HCE.out w (Below.refl _ _)
  clear h hi hp hA hn hc hrm hw1 ho
  go_enter Try.func16, Try.ntmps16
  go_upto_region 2 with fail
  rw [← HW1.out]
  rw [← HO.out]
  clear c0
  go_wp2_with fail
  go_loopw [6] (fun v6 wr => ∃ (j c' : Nat) (A' : Option Addr) (G : List FZ), j ≤ n ∧ v6 = .int .i64 j ∧ Hid (CrSt t w wr o rm j c' A' R.F G)) (fun i _ => n - (intOf i).toNat)
  case atStart => exact ⟨0, 0, none, [], by omega, rfl, HST0⟩
  case round =>
    clear HST0
    obtain ⟨j, c', A', G, hj, rfl, HST⟩ := hrel
    obtain ⟨_, a2⟩ := HCE.out _ HST.out.below
    by_cases hlt : j < n
    · have hjl : j < R.F.length := by have := HN.out; omega
      obtain ⟨f, hf⟩ : ∃ f, f = R.F[j] := ⟨_, rfl⟩
      have hfm : f ∈ R.F := by rw [hf]; exact List.getElem_mem _
      obtain ⟨b, off, hAe, d0, d1, d2⟩ := file_cells (HH.out.below HST.out.below).row hjl
      rw [← hf] at d0 d1 d2
      rw [HA.out, show R.A = _ from hAe] at a2
      have hfs : f.safe ≤ f.n := by
        have hm : normF f ∈ P.F := by rw [← HI.out.F]; exact List.mem_map_of_mem hfm
        exact HP.out.safe (normF f) hm
      have hfn : f.n ≤ 16777216 := by
        have h1 := HI.out.used
        have h2 := HP.out.used
        have h3 := HP.out.room
        have h4 := used_tk hjl
        have h5 := used_tk_le R.F (j + 1)
        rw [← hf] at h4
        omega
      have hj0 : (0 : Int) ≤ (j : Int) := by omega
      have hj1 : (j : Int) < (n : Int) := by omega
      obtain ⟨m, hm⟩ : ∃ m, m = kOf t f.n f.safe := ⟨_, rfl⟩
      have HMM := Lib.hid hm
      have hmn : m ≤ f.n := by rw [hm]; exact kOf_le hfs
      obtain ⟨d, hd⟩ : ∃ d, d = f.n - f.safe := ⟨_, rfl⟩
      have hdd : (f.n : Int) - (f.safe : Int) = (d : Int) := by omega
      have hmm : (f.safe : Int) + min (max t 0) (d : Int) = (m : Int) := by rw [hm]; unfold kOf; omega
      have HTK := Lib.hid (show (R.F.take (j + 1)).map (fun f => normF (chF (kC t) f)) = (R.F.take j).map (fun f => normF (chF (kC t) f)) ++ [normF (chF (kC t) f)] by rw [take_snoc _ _ hjl, List.map_append, hf]; rfl)
      have HKC := Lib.hid (show normF (chF (kC t) f) = ⟨f.name, none, m, 0, m, f.bs.take m⟩ by
        unfold chF normF kC
        simp only [if_pos hfs, ← hm])
      have HFO := Lib.hid ((HH.out.files f hfm).below HST.out.below)
      obtain ⟨wz, hwz⟩ : ∃ wz, wz = wr.alloc (.cells #[.string f.name, .slice f.A f.n f.c, .int .i64 f.safe] 66) := ⟨_, rfl⟩
      obtain ⟨g, hg⟩ : ∃ g, g = wr.heap.size := ⟨_, rfl⟩
      have HKZ := Lib.hid (show Blk wz g 66 #[.string f.name, .slice f.A f.n f.c, .int .i64 f.safe] by rw [hwz, hg]; exact Blk.new _ _ _)
      have HBZ := Lib.hid (show Below wr.heap.size wr wz by rw [hwz]; exact bpush (Below.refl _ _) _)
      have HWZ := Lib.hid hwz
      have HG := Lib.hid hg
      have z0 : wz.cell? ⟨g, 0, none⟩ = some (.string f.name) := by simpa using HKZ.out.cell 0
      have z1 : wz.cell? ⟨g, 1, none⟩ = some (.slice f.A f.n f.c) := by simpa using HKZ.out.cell 1
      have z2 : wz.cell? ⟨g, 2, none⟩ = some (.int .i64 f.safe) := by simpa using HKZ.out.cell 2
      clear hf hfm hAe hm hd hwz hg
      go_upto_region 6 with fail
      rw [← HWZ.out]
      rw [← HG.out]
      clear a2 d0 d1 d2
      go_upto_region 7 with fail
      have HO2 := Lib.hid (show wz.cell? ⟨o, 2, none⟩ = some (.slice A' j c') from cell_on HBZ.out (by simpa using HST.out.blk.cell 2))
      have HKO := Lib.hid (show Blk wz o 60 #[.int .i64 rm, .int .i64 (-1), .slice A' j c'] from (HBZ.out.block _ HST.out.blk.lt).trans HST.out.blk)
      have HOZ := Lib.hid (own_below HST.out.own HBZ.out)
      have HFZ := Lib.hid ((HFO.out.below HBZ.out).row)
      have HML := Lib.hid (show m = (f.bs.take m).length by rw [List.length_take]; have := HFO.out.len; omega)
      have HMC := Lib.hid (show m ≤ f.c from Nat.le_trans hmn HFO.out.cap)
      have HFNIL := Lib.hid HFO.out.nil
      have HE7 := Lib.hid (show (0 + m) * 1 ≤ 140737488355328 by omega)
      have HE16 := Lib.hid (show (j + 1) * 48 ≤ 140737488355328 by omega)
      have HSZZ := Lib.hid (show w.heap.size + 1 ≤ wz.heap.size from Nat.le_trans HST.out.size HBZ.out.size)
      have HBZW := Lib.hid (HST.out.below.trans (HBZ.out.mono HST.out.below.size))
      obtain ⟨wd, hwd⟩ : ∃ wd, wd = wz.drew := ⟨_, rfl⟩
      have HBC := Lib.hid (show Below wz.heap.size wz wz.drew from below_drewN (Below.refl _ _) 1)
      clear hwd z0 z1 z2 hmm hdd
      refine wp_region_held_drew (S := fun w' => Blk w' g 66 #[.string f.name, .slice f.A f.n f.c, .int .i64 f.safe]) (by kernel_rfl) (HKZ.out.below (below_drewN (Below.refl _ _) 1) HKZ.out.lt) ?_
      intro hHeld
      refine take_want (i := 0) (v := ?v0k1) rfl (by kernel_rfl) (by kernel_rfl) (by kernel_rfl) (fun _ _ _ h => h) (by rfl) ?y0k1 (by assumption) ?r0k1
      case y0k1 => (intro w hSw; go_simp; all_goals with_reducible rfl)
      (try simp only [Act.put, List.setIfInBounds_toArray, List.set_cons_zero, List.set_cons_succ])
      refine take_want (i := 1) (v := ?v1k2) rfl (by kernel_rfl) (by kernel_rfl) (by kernel_rfl) (fun _ _ _ h => h) (by rfl) ?y1k2 (by assumption) ?r1k2
      case y1k2 => (intro w hSw; go_simp; all_goals with_reducible rfl)
      (try simp only [Act.put, List.setIfInBounds_toArray, List.set_cons_zero, List.set_cons_succ])
      refine take_want (i := 2) (v := ?v2k3) rfl (by kernel_rfl) (by kernel_rfl) (by kernel_rfl) (fun _ _ _ h => h) (by rfl) ?y2k3 (by assumption) ?r2k3
      case y2k3 => (intro w hSw; go_simp; all_goals with_reducible rfl)
      (try simp only [Act.put, List.setIfInBounds_toArray, List.set_cons_zero, List.set_cons_succ])
      refine take_want (i := 3) (v := ?v3k4) rfl (by kernel_rfl) (by kernel_rfl) (by kernel_rfl) (fun _ _ _ h => h) (by rfl) ?y3k4 (by assumption) ?r3k4
      case y3k4 => (intro w hSw; go_simp; all_goals with_reducible rfl)
      (try simp only [Act.put, List.setIfInBounds_toArray, List.set_cons_zero, List.set_cons_succ])
      refine take_want (i := 5) (v := ?v5k5) rfl (by kernel_rfl) (by kernel_rfl) (by kernel_rfl) (fun _ _ _ h => h) (by rfl) ?y5k5 (by assumption) ?r5k5
      case y5k5 => (intro w hSw; go_simp; all_goals with_reducible rfl)
      (try simp only [Act.put, List.setIfInBounds_toArray, List.set_cons_zero, List.set_cons_succ])
      refine take_want (i := 8) (v := ?v8k6) rfl (by kernel_rfl) (by kernel_rfl) (by kernel_rfl) (fun _ _ _ h => h) (by rfl) ?y8k6 (by assumption) ?r8k6
      case y8k6 => (intro w hSw; go_simp; all_goals with_reducible rfl)
      (try simp only [Act.put, List.setIfInBounds_toArray, List.set_cons_zero, List.set_cons_succ])
      refine take_want (i := 10) (v := ?v10k7) rfl (by kernel_rfl) (by kernel_rfl) (by kernel_rfl) (fun _ _ _ h => h) (by rfl) ?y10k7 (by assumption) ?r10k7
      case y10k7 => (intro w hSw; go_simp; all_goals with_reducible rfl)
      (try simp only [Act.put, List.setIfInBounds_toArray, List.set_cons_zero, List.set_cons_succ])
      refine take_want (i := 13) (v := ?v13k8) rfl (by kernel_rfl) (by kernel_rfl) (by kernel_rfl) (fun _ _ _ h => h) (by rfl) ?y13k8 (by assumption) ?r13k8
      case y13k8 => (intro w hSw; go_simp; all_goals with_reducible rfl)
      (try simp only [Act.put, List.setIfInBounds_toArray, List.set_cons_zero, List.set_cons_succ])
      refine take_want (i := 6) (v := ?v6k9) rfl (by kernel_rfl) (by kernel_rfl) (by kernel_rfl) (fun _ _ _ h => h) (by rfl) ?y6k9 (by assumption) ?r6k9
      case y6k9 => (intro w hSw; have r0 := hSw.cell 0; have r1 := hSw.cell 1; simp at r0 r1; go_simp; all_goals with_reducible rfl)
      (try simp only [Act.put, List.setIfInBounds_toArray, List.set_cons_zero, List.set_cons_succ])
      refine take_want (i := 9) (v := ?v9k10) rfl (by kernel_rfl) (by kernel_rfl) (by kernel_rfl) (fun _ _ _ h => h) (by rfl) ?y9k10 (by assumption) ?r9k10
      case y9k10 => (intro w hSw; have r0 := hSw.cell 0; have r1 := hSw.cell 1; simp at r0 r1; go_simp; all_goals with_reducible rfl)
      (try simp only [Act.put, List.setIfInBounds_toArray, List.set_cons_zero, List.set_cons_succ])
      refine take_want (i := 11) (v := .slice f.A m f.c) rfl (by kernel_rfl) (by kernel_rfl) (by kernel_rfl) (fun _ _ _ h => h) (by rfl) ?y11k11 (by assumption) ?r11k11
      case y11k11 => (intro w hSw; have h1 := HMC.out; go_simp; all_goals rw [if_pos h1])
      (try simp only [Act.put, List.setIfInBounds_toArray, List.set_cons_zero, List.set_cons_succ])
      refine wpAnyH_ready (rs := [4, 7]) (by kernel_rfl) (by simp) ?_
      refine AllReadyH.cons rfl (fun K hK => ?_) (AllReadyH.cons rfl (fun K hK => ?_) AllReadyH.nil)
      · have o2 : World.cell? wz ⟨o, 2, none⟩ = some (.slice A' j c') := cell_on (Below.refl _ _) HO2.out
        go_simp
        clear o2
        refine hK.out _ _ hHeld (fun hHeld => ?_)
        clear hK K
        (try simp only [Act.put, List.setIfInBounds_toArray, List.set_cons_zero, List.set_cons_succ])
        refine wpAnyH_ready (rs := [7]) (by kernel_rfl) (by simp) ?_
        refine AllReadyH.cons rfl (fun K hK => ?_) AllReadyH.nil
        go_simp
        refine hK.out _ _ (hHeld.alloc _) (fun hHeld => ?_)
        clear hK K
        (try simp only [Act.put, List.setIfInBounds_toArray, List.set_cons_zero, List.set_cons_succ])
        have HO7 := Lib.hid (own_empty (t := 5) (size := 1) HBC.out.size)
        have HBC := Lib.hid (bpush HBC.out (.cells #[] 5))
        refine wpAnyH_ready (rs := [12]) (by kernel_rfl) (by simp) ?_
        refine AllReadyH.cons rfl (fun K hK => ?_) AllReadyH.nil
        refine step_append_u8s _ _ rfl wz.heap.size _ 0 [] (by first | rfl | (simp; done) | (simp; rfl)) f.A m f.c (f.bs.take m) rfl HO7.out ((row_take HFZ.out m).keep (Nat.le_refl _) HBC.out) HML.out HMC.out HFNIL.out HE7.out HBC.out.size ?_
        intro v1 w2 ho1 hg1
        rw [Nat.zero_add, List.nil_append] at ho1
        have HBC := Lib.hid (HBC.out.trans (grown_own HO7.out hg1 HBC.out.size))
        refine hK.out _ _ ((HBC.out.block _ HKZ.out.lt).trans HKZ.out) (fun hHeld => ?_)
        clear hK K
        (try simp only [Act.put, List.setIfInBounds_toArray, List.set_cons_zero, List.set_cons_succ])
        have HO1 := Lib.hid ho1
        clear ho1 hg1
        obtain ⟨A1, c1, rfl⟩ := own_is HO1.out
        refine take_want (i := 14) (v := ?v14k12) rfl (by kernel_rfl) (by kernel_rfl) (by kernel_rfl) (fun _ _ _ h => h) (by rfl) ?y14k12 (by assumption) ?r14k12
        case y14k12 => (intro w hSw; go_simp; all_goals with_reducible rfl)
        (try simp only [Act.put, List.setIfInBounds_toArray, List.set_cons_zero, List.set_cons_succ])
        refine wpAnyH_ready (rs := [15]) (by kernel_rfl) (by simp) ?_
        refine AllReadyH.cons rfl (fun K hK => ?_) AllReadyH.nil
        go_simp
        obtain ⟨w3, hw3⟩ : ∃ w3, w3 = w2.alloc (.cells #[.string f.name, .slice A1 m c1, .int .i64 m] 66) := ⟨_, rfl⟩
        have hb3 : Below w2.heap.size w2 w3 := by rw [hw3]; exact bpush (Below.refl _ _) _
        have HN3 := Lib.hid (show Row w3 (some ⟨w2.heap.size, 0, none⟩) (cellsF [⟨f.name, A1, m, c1, m, f.bs.take m⟩]) by rw [cellsF_one, hw3]; exact Row.made rfl rfl)
        have HO13 := Lib.hid (own_below HO1.out hb3)
        have HBC := Lib.hid (HBC.out.trans (hb3.mono HBC.out.size))
        rw [← hw3]
        refine hK.out _ _ ((HBC.out.block _ HKZ.out.lt).trans HKZ.out) (fun hHeld => ?_)
        clear hK K hb3 hw3
        (try simp only [Act.put, List.setIfInBounds_toArray, List.set_cons_zero, List.set_cons_succ])
        refine wpAnyH_ready (rs := [16]) (by kernel_rfl) (by simp) ?_
        refine AllReadyH.cons rfl (fun K hK => ?_) AllReadyH.nil
        refine step_append_files _ _ rfl (w.heap.size + 1) (.slice A' j c') j (cellsF G) (by first | rfl | (simp; done) | (simp; rfl)) (some ⟨w2.heap.size, 0, none⟩) 1 1 [⟨f.name, A1, m, c1, m, f.bs.take m⟩] rfl (own_below HOZ.out HBC.out) HN3.out rfl (Nat.le_refl _) (fun h => by cases h) HE16.out (Nat.le_trans HSZZ.out HBC.out.size) ?_
        intro v5 w5 ho5 hg5
        obtain ⟨A5, c5, rfl⟩ : ∃ A5 c5, v5 = .slice A5 (j + 1) c5 := (by obtain ⟨A5, c5, e, _⟩ := own_sl ho5; exact ⟨A5, c5, e⟩)
        have hlt5 := (own_below HOZ.out HBC.out).lt
        have hne5 : ∀ b, (Value.slice A' j c').ownBlock = some b → b < wz.heap.size ∧ b ≠ g ∧ b ≠ o := fun b hb => ⟨(HOZ.out.lt b hb).2, (by have := (HST.out.own.lt b hb).2; have := HG.out; omega), (by have := (HOZ.out.lt b hb).1; have := HO.out; omega)⟩
        have hks5 : Blk w5 g 66 #[.string f.name, .slice f.A f.n f.c, .int .i64 f.safe] := (hg5.block _ (Nat.lt_of_lt_of_le HKZ.out.lt HBC.out.size) (fun e => (hne5 g e.symm).2.1 rfl)).trans ((HBC.out.block _ HKZ.out.lt).trans HKZ.out)
        have hko5 : Blk w5 o 60 #[.int .i64 rm, .int .i64 (-1), .slice A' j c'] := (hg5.block _ (Nat.lt_of_lt_of_le HKO.out.lt HBC.out.size) (fun e => (hne5 o e.symm).2.2 rfl)).trans ((HBC.out.block _ HKO.out.lt).trans HKO.out)
        refine hK.out _ _ hks5 (fun hHeld => ?_)
        clear hK K
        (try simp only [Act.put, List.setIfInBounds_toArray, List.set_cons_zero, List.set_cons_succ])
        have HO5 := Lib.hid (show w5.ownsRow (w.heap.size + 1) 66 3 (.slice A5 (j + 1) c5) (j + 1) (cellsF (G ++ [⟨f.name, A1, m, c1, m, f.bs.take m⟩])) by rw [cellsF_app]; exact ho5)
        have HK5 := Lib.hid hko5
        have HF5 := Lib.hid (show ∀ x ∈ G ++ [(⟨f.name, A1, m, c1, m, f.bs.take m⟩ : FZ)], OwnF w5 (w.heap.size + 1) x from fun x hx => by
          have h3 : OwnF w3 (w.heap.size + 1) x := by
            rcases List.mem_append.1 hx with h | h
            · exact own_below ((own_below (HST.out.files x h) HBZ.out)) HBC.out
            · obtain rfl := List.mem_singleton.1 h
              exact own_less HO13.out HSZZ.out
          refine h3.fr (Fr.of_grown hg5) (fun b hb e => ?_)
          obtain ⟨_, _, cs, fz, h4⟩ := h3.lt hb
          rcases (own_below HOZ.out HBC.out).2 with ⟨e1, _⟩ | ⟨g2, cap, cur, e1, _, e3, _⟩
          · rw [e1] at e; cases e
          · rw [e1] at e
            obtain rfl : g2 = b := by simpa [Value.ownBlock] using e
            rw [h4] at e3; cases e3)
        have HB5 := Lib.hid (show Below w.heap.size w w5 from (HBZW.out.trans (HBC.out.mono HBZW.out.size)).grown hg5 (Nat.le_trans HBZW.out.size HBC.out.size) (fun b hb => Nat.le_of_succ_le (HOZ.out.lt b hb).1))
        have HSZ5 := Lib.hid (Nat.le_trans (Nat.le_trans HSZZ.out HBC.out.size) hg5.size)
        clear ho5 hg5 hlt5 hne5 hks5 hko5
        refine take_want (i := 17) (v := ?v17k13) rfl (by kernel_rfl) (by kernel_rfl) (by kernel_rfl) (fun _ _ _ h => h) (by rfl) ?y17k13 (by assumption) ?r17k13
        case y17k13 => (intro w hSw; go_simp; all_goals with_reducible rfl)
        (try simp only [Act.put, List.setIfInBounds_toArray, List.set_cons_zero, List.set_cons_succ])
        refine take_want (i := 18) (v := ?v18k14) rfl (by kernel_rfl) (by kernel_rfl) (by kernel_rfl) (fun _ _ _ h => h) (by rfl) ?y18k14 (by assumption) ?r18k14
        case y18k14 => (intro w hSw; go_simp; all_goals with_reducible rfl)
        (try simp only [Act.put, List.setIfInBounds_toArray, List.set_cons_zero, List.set_cons_succ])
        refine wpAnyH_ready (rs := [19]) (by kernel_rfl) (by simp) ?_
        refine AllReadyH.cons rfl (fun K hK => ?_) AllReadyH.nil
        have o2 : w5.cell? ⟨o, 2, none⟩ = some (.slice A' j c') := by simpa using HK5.out.cell 2
        have of2 := HK5.out.frozen 2
        go_simp
        have hgo : g ≠ o := by have := HG.out; have := HO.out; have := HST.out.size; omega
        have hf6 : Fr (fun i => i = o) w5 (w5.setCell ⟨o, 2, none⟩ (.slice A5 (j + 1) c5)) := (Fr.refl (fun i => i = o) w5).set_ (.inl (show o = o from rfl)) _
        have hk6 := HK5.out.set_ 2 (.slice A5 (j + 1) c5)
        refine hK.out _ _ ((hf6.block g hHeld.lt hgo).trans hHeld) (fun hHeld => ?_)
        clear hK K
        (try simp only [Act.put, List.setIfInBounds_toArray, List.set_cons_zero, List.set_cons_succ])
        refine wpAnyH_done (by kernel_rfl) ?_ _
        have HCR := Lib.hid (show CrSt t w (w5.setCell ⟨o, 2, none⟩ (.slice A5 (j + 1) c5)) o rm (j + 1) c5 A5 R.F (G ++ [⟨f.name, A1, m, c1, m, f.bs.take m⟩]) from ⟨hk6, own_fr2 HO5.out hf6 (fun b hb e => by have := (HO5.out.lt b hb).1; have := HO.out; omega), fun x hx => (HF5.out x hx).fr hf6 (fun b hb e => by have := ((HF5.out x hx).lt hb).2.1; have := HO.out; omega), by rw [List.map_append, HST.out.map, HTK.out, HKC.out]; rfl, bset HB5.out (by have := HO.out; omega) _, by have := hf6.size; have := HSZ5.out; omega⟩)
        clear o2 of2 hgo hf6 hk6 hHeld
        go_wp2_with fail
        go_roundw
        case rel => exact ⟨j + 1, c5, A5, _, by omega, by go_num, HCR⟩
        case measure => simp [intOf]; omega
      · go_simp
        refine hK.out _ _ (hHeld.alloc _) (fun hHeld => ?_)
        clear hK K
        (try simp only [Act.put, List.setIfInBounds_toArray, List.set_cons_zero, List.set_cons_succ])
        have HO7 := Lib.hid (own_empty (t := 5) (size := 1) HBC.out.size)
        have HBC := Lib.hid (bpush HBC.out (.cells #[] 5))
        refine wpAnyH_ready (rs := [4, 12]) (by kernel_rfl) (by simp) ?_
        refine AllReadyH.cons rfl (fun K hK => ?_) (AllReadyH.cons rfl (fun K hK => ?_) AllReadyH.nil)
        · have o2 : World.cell? (wz.alloc (.cells #[] 5)) ⟨o, 2, none⟩ = some (.slice A' j c') := cell_on (bpush (Below.refl _ _) _) HO2.out
          go_simp
          clear o2
          refine hK.out _ _ hHeld (fun hHeld => ?_)
          clear hK K
          (try simp only [Act.put, List.setIfInBounds_toArray, List.set_cons_zero, List.set_cons_succ])
          refine wpAnyH_ready (rs := [12]) (by kernel_rfl) (by simp) ?_
          refine AllReadyH.cons rfl (fun K hK => ?_) AllReadyH.nil
          refine step_append_u8s _ _ rfl wz.heap.size _ 0 [] (by first | rfl | (simp; done) | (simp; rfl)) f.A m f.c (f.bs.take m) rfl HO7.out ((row_take HFZ.out m).keep (Nat.le_refl _) HBC.out) HML.out HMC.out HFNIL.out HE7.out HBC.out.size ?_
          intro v1 w2 ho1 hg1
          rw [Nat.zero_add, List.nil_append] at ho1
          have HBC := Lib.hid (HBC.out.trans (grown_own HO7.out hg1 HBC.out.size))
          refine hK.out _ _ ((HBC.out.block _ HKZ.out.lt).trans HKZ.out) (fun hHeld => ?_)
          clear hK K
          (try simp only [Act.put, List.setIfInBounds_toArray, List.set_cons_zero, List.set_cons_succ])
          have HO1 := Lib.hid ho1
          clear ho1 hg1
          obtain ⟨A1, c1, rfl⟩ := own_is HO1.out
          refine take_want (i := 14) (v := ?v14k15) rfl (by kernel_rfl) (by kernel_rfl) (by kernel_rfl) (fun _ _ _ h => h) (by rfl) ?y14k15 (by assumption) ?r14k15
          case y14k15 => (intro w hSw; go_simp; all_goals with_reducible rfl)
          (try simp only [Act.put, List.setIfInBounds_toArray, List.set_cons_zero, List.set_cons_succ])
          refine wpAnyH_ready (rs := [15]) (by kernel_rfl) (by simp) ?_
          refine AllReadyH.cons rfl (fun K hK => ?_) AllReadyH.nil
          go_simp
          obtain ⟨w3, hw3⟩ : ∃ w3, w3 = w2.alloc (.cells #[.string f.name, .slice A1 m c1, .int .i64 m] 66) := ⟨_, rfl⟩
          have hb3 : Below w2.heap.size w2 w3 := by rw [hw3]; exact bpush (Below.refl _ _) _
          have HN3 := Lib.hid (show Row w3 (some ⟨w2.heap.size, 0, none⟩) (cellsF [⟨f.name, A1, m, c1, m, f.bs.take m⟩]) by rw [cellsF_one, hw3]; exact Row.made rfl rfl)
          have HO13 := Lib.hid (own_below HO1.out hb3)
          have HBC := Lib.hid (HBC.out.trans (hb3.mono HBC.out.size))
          rw [← hw3]
          refine hK.out _ _ ((HBC.out.block _ HKZ.out.lt).trans HKZ.out) (fun hHeld => ?_)
          clear hK K hb3 hw3
          (try simp only [Act.put, List.setIfInBounds_toArray, List.set_cons_zero, List.set_cons_succ])
          refine wpAnyH_ready (rs := [16]) (by kernel_rfl) (by simp) ?_
          refine AllReadyH.cons rfl (fun K hK => ?_) AllReadyH.nil
          refine step_append_files _ _ rfl (w.heap.size + 1) (.slice A' j c') j (cellsF G) (by first | rfl | (simp; done) | (simp; rfl)) (some ⟨w2.heap.size, 0, none⟩) 1 1 [⟨f.name, A1, m, c1, m, f.bs.take m⟩] rfl (own_below HOZ.out HBC.out) HN3.out rfl (Nat.le_refl _) (fun h => by cases h) HE16.out (Nat.le_trans HSZZ.out HBC.out.size) ?_
          intro v5 w5 ho5 hg5
          obtain ⟨A5, c5, rfl⟩ : ∃ A5 c5, v5 = .slice A5 (j + 1) c5 := (by obtain ⟨A5, c5, e, _⟩ := own_sl ho5; exact ⟨A5, c5, e⟩)
          have hlt5 := (own_below HOZ.out HBC.out).lt
          have hne5 : ∀ b, (Value.slice A' j c').ownBlock = some b → b < wz.heap.size ∧ b ≠ g ∧ b ≠ o := fun b hb => ⟨(HOZ.out.lt b hb).2, (by have := (HST.out.own.lt b hb).2; have := HG.out; omega), (by have := (HOZ.out.lt b hb).1; have := HO.out; omega)⟩
          have hks5 : Blk w5 g 66 #[.string f.name, .slice f.A f.n f.c, .int .i64 f.safe] := (hg5.block _ (Nat.lt_of_lt_of_le HKZ.out.lt HBC.out.size) (fun e => (hne5 g e.symm).2.1 rfl)).trans ((HBC.out.block _ HKZ.out.lt).trans HKZ.out)
          have hko5 : Blk w5 o 60 #[.int .i64 rm, .int .i64 (-1), .slice A' j c'] := (hg5.block _ (Nat.lt_of_lt_of_le HKO.out.lt HBC.out.size) (fun e => (hne5 o e.symm).2.2 rfl)).trans ((HBC.out.block _ HKO.out.lt).trans HKO.out)
          refine hK.out _ _ hks5 (fun hHeld => ?_)
          clear hK K
          (try simp only [Act.put, List.setIfInBounds_toArray, List.set_cons_zero, List.set_cons_succ])
          have HO5 := Lib.hid (show w5.ownsRow (w.heap.size + 1) 66 3 (.slice A5 (j + 1) c5) (j + 1) (cellsF (G ++ [⟨f.name, A1, m, c1, m, f.bs.take m⟩])) by rw [cellsF_app]; exact ho5)
          have HK5 := Lib.hid hko5
          have HF5 := Lib.hid (show ∀ x ∈ G ++ [(⟨f.name, A1, m, c1, m, f.bs.take m⟩ : FZ)], OwnF w5 (w.heap.size + 1) x from fun x hx => by
            have h3 : OwnF w3 (w.heap.size + 1) x := by
              rcases List.mem_append.1 hx with h | h
              · exact own_below ((own_below (HST.out.files x h) HBZ.out)) HBC.out
              · obtain rfl := List.mem_singleton.1 h
                exact own_less HO13.out HSZZ.out
            refine h3.fr (Fr.of_grown hg5) (fun b hb e => ?_)
            obtain ⟨_, _, cs, fz, h4⟩ := h3.lt hb
            rcases (own_below HOZ.out HBC.out).2 with ⟨e1, _⟩ | ⟨g2, cap, cur, e1, _, e3, _⟩
            · rw [e1] at e; cases e
            · rw [e1] at e
              obtain rfl : g2 = b := by simpa [Value.ownBlock] using e
              rw [h4] at e3; cases e3)
          have HB5 := Lib.hid (show Below w.heap.size w w5 from (HBZW.out.trans (HBC.out.mono HBZW.out.size)).grown hg5 (Nat.le_trans HBZW.out.size HBC.out.size) (fun b hb => Nat.le_of_succ_le (HOZ.out.lt b hb).1))
          have HSZ5 := Lib.hid (Nat.le_trans (Nat.le_trans HSZZ.out HBC.out.size) hg5.size)
          clear ho5 hg5 hlt5 hne5 hks5 hko5
          refine take_want (i := 17) (v := ?v17k16) rfl (by kernel_rfl) (by kernel_rfl) (by kernel_rfl) (fun _ _ _ h => h) (by rfl) ?y17k16 (by assumption) ?r17k16
          case y17k16 => (intro w hSw; go_simp; all_goals with_reducible rfl)
          (try simp only [Act.put, List.setIfInBounds_toArray, List.set_cons_zero, List.set_cons_succ])
          refine take_want (i := 18) (v := ?v18k17) rfl (by kernel_rfl) (by kernel_rfl) (by kernel_rfl) (fun _ _ _ h => h) (by rfl) ?y18k17 (by assumption) ?r18k17
          case y18k17 => (intro w hSw; go_simp; all_goals with_reducible rfl)
          (try simp only [Act.put, List.setIfInBounds_toArray, List.set_cons_zero, List.set_cons_succ])
          refine wpAnyH_ready (rs := [19]) (by kernel_rfl) (by simp) ?_
          refine AllReadyH.cons rfl (fun K hK => ?_) AllReadyH.nil
          have o2 : w5.cell? ⟨o, 2, none⟩ = some (.slice A' j c') := by simpa using HK5.out.cell 2
          have of2 := HK5.out.frozen 2
          go_simp
          have hgo : g ≠ o := by have := HG.out; have := HO.out; have := HST.out.size; omega
          have hf6 : Fr (fun i => i = o) w5 (w5.setCell ⟨o, 2, none⟩ (.slice A5 (j + 1) c5)) := (Fr.refl (fun i => i = o) w5).set_ (.inl (show o = o from rfl)) _
          have hk6 := HK5.out.set_ 2 (.slice A5 (j + 1) c5)
          refine hK.out _ _ ((hf6.block g hHeld.lt hgo).trans hHeld) (fun hHeld => ?_)
          clear hK K
          (try simp only [Act.put, List.setIfInBounds_toArray, List.set_cons_zero, List.set_cons_succ])
          refine wpAnyH_done (by kernel_rfl) ?_ _
          have HCR := Lib.hid (show CrSt t w (w5.setCell ⟨o, 2, none⟩ (.slice A5 (j + 1) c5)) o rm (j + 1) c5 A5 R.F (G ++ [⟨f.name, A1, m, c1, m, f.bs.take m⟩]) from ⟨hk6, own_fr2 HO5.out hf6 (fun b hb e => by have := (HO5.out.lt b hb).1; have := HO.out; omega), fun x hx => (HF5.out x hx).fr hf6 (fun b hb e => by have := ((HF5.out x hx).lt hb).2.1; have := HO.out; omega), by rw [List.map_append, HST.out.map, HTK.out, HKC.out]; rfl, bset HB5.out (by have := HO.out; omega) _, by have := hf6.size; have := HSZ5.out; omega⟩)
          clear o2 of2 hgo hf6 hk6 hHeld
          go_wp2_with fail
          go_roundw
          case rel => exact ⟨j + 1, c5, A5, _, by omega, by go_num, HCR⟩
          case measure => simp [intOf]; omega
        · refine step_append_u8s _ _ rfl wz.heap.size _ 0 [] (by first | rfl | (simp; done) | (simp; rfl)) f.A m f.c (f.bs.take m) rfl HO7.out ((row_take HFZ.out m).keep (Nat.le_refl _) HBC.out) HML.out HMC.out HFNIL.out HE7.out HBC.out.size ?_
          intro v1 w2 ho1 hg1
          rw [Nat.zero_add, List.nil_append] at ho1
          have HBC := Lib.hid (HBC.out.trans (grown_own HO7.out hg1 HBC.out.size))
          refine hK.out _ _ ((HBC.out.block _ HKZ.out.lt).trans HKZ.out) (fun hHeld => ?_)
          clear hK K
          (try simp only [Act.put, List.setIfInBounds_toArray, List.set_cons_zero, List.set_cons_succ])
          have HO1 := Lib.hid ho1
          clear ho1 hg1
          obtain ⟨A1, c1, rfl⟩ := own_is HO1.out
          refine take_want (i := 14) (v := ?v14k18) rfl (by kernel_rfl) (by kernel_rfl) (by kernel_rfl) (fun _ _ _ h => h) (by rfl) ?y14k18 (by assumption) ?r14k18
          case y14k18 => (intro w hSw; go_simp; all_goals with_reducible rfl)
          (try simp only [Act.put, List.setIfInBounds_toArray, List.set_cons_zero, List.set_cons_succ])
          refine wpAnyH_ready (rs := [4, 15]) (by kernel_rfl) (by simp) ?_
          refine AllReadyH.cons rfl (fun K hK => ?_) (AllReadyH.cons rfl (fun K hK => ?_) AllReadyH.nil)
          · have o2 : World.cell? w2 ⟨o, 2, none⟩ = some (.slice A' j c') := cell_on HBC.out HO2.out
            go_simp
            clear o2
            refine hK.out _ _ hHeld (fun hHeld => ?_)
            clear hK K
            (try simp only [Act.put, List.setIfInBounds_toArray, List.set_cons_zero, List.set_cons_succ])
            refine wpAnyH_ready (rs := [15]) (by kernel_rfl) (by simp) ?_
            refine AllReadyH.cons rfl (fun K hK => ?_) AllReadyH.nil
            go_simp
            obtain ⟨w3, hw3⟩ : ∃ w3, w3 = w2.alloc (.cells #[.string f.name, .slice A1 m c1, .int .i64 m] 66) := ⟨_, rfl⟩
            have hb3 : Below w2.heap.size w2 w3 := by rw [hw3]; exact bpush (Below.refl _ _) _
            have HN3 := Lib.hid (show Row w3 (some ⟨w2.heap.size, 0, none⟩) (cellsF [⟨f.name, A1, m, c1, m, f.bs.take m⟩]) by rw [cellsF_one, hw3]; exact Row.made rfl rfl)
            have HO13 := Lib.hid (own_below HO1.out hb3)
            have HBC := Lib.hid (HBC.out.trans (hb3.mono HBC.out.size))
            rw [← hw3]
            refine hK.out _ _ ((HBC.out.block _ HKZ.out.lt).trans HKZ.out) (fun hHeld => ?_)
            clear hK K hb3 hw3
            (try simp only [Act.put, List.setIfInBounds_toArray, List.set_cons_zero, List.set_cons_succ])
            refine wpAnyH_ready (rs := [16]) (by kernel_rfl) (by simp) ?_
            refine AllReadyH.cons rfl (fun K hK => ?_) AllReadyH.nil
            refine step_append_files _ _ rfl (w.heap.size + 1) (.slice A' j c') j (cellsF G) (by first | rfl | (simp; done) | (simp; rfl)) (some ⟨w2.heap.size, 0, none⟩) 1 1 [⟨f.name, A1, m, c1, m, f.bs.take m⟩] rfl (own_below HOZ.out HBC.out) HN3.out rfl (Nat.le_refl _) (fun h => by cases h) HE16.out (Nat.le_trans HSZZ.out HBC.out.size) ?_
            intro v5 w5 ho5 hg5
            obtain ⟨A5, c5, rfl⟩ : ∃ A5 c5, v5 = .slice A5 (j + 1) c5 := (by obtain ⟨A5, c5, e, _⟩ := own_sl ho5; exact ⟨A5, c5, e⟩)
            have hlt5 := (own_below HOZ.out HBC.out).lt
            have hne5 : ∀ b, (Value.slice A' j c').ownBlock = some b → b < wz.heap.size ∧ b ≠ g ∧ b ≠ o := fun b hb => ⟨(HOZ.out.lt b hb).2, (by have := (HST.out.own.lt b hb).2; have := HG.out; omega), (by have := (HOZ.out.lt b hb).1; have := HO.out; omega)⟩
            have hks5 : Blk w5 g 66 #[.string f.name, .slice f.A f.n f.c, .int .i64 f.safe] := (hg5.block _ (Nat.lt_of_lt_of_le HKZ.out.lt HBC.out.size) (fun e => (hne5 g e.symm).2.1 rfl)).trans ((HBC.out.block _ HKZ.out.lt).trans HKZ.out)
            have hko5 : Blk w5 o 60 #[.int .i64 rm, .int .i64 (-1), .slice A' j c'] := (hg5.block _ (Nat.lt_of_lt_of_le HKO.out.lt HBC.out.size) (fun e => (hne5 o e.symm).2.2 rfl)).trans ((HBC.out.block _ HKO.out.lt).trans HKO.out)
            refine hK.out _ _ hks5 (fun hHeld => ?_)
            clear hK K
            (try simp only [Act.put, List.setIfInBounds_toArray, List.set_cons_zero, List.set_cons_succ])
            have HO5 := Lib.hid (show w5.ownsRow (w.heap.size + 1) 66 3 (.slice A5 (j + 1) c5) (j + 1) (cellsF (G ++ [⟨f.name, A1, m, c1, m, f.bs.take m⟩])) by rw [cellsF_app]; exact ho5)
            have HK5 := Lib.hid hko5
            have HF5 := Lib.hid (show ∀ x ∈ G ++ [(⟨f.name, A1, m, c1, m, f.bs.take m⟩ : FZ)], OwnF w5 (w.heap.size + 1) x from fun x hx => by
              have h3 : OwnF w3 (w.heap.size + 1) x := by
                rcases List.mem_append.1 hx with h | h
                · exact own_below ((own_below (HST.out.files x h) HBZ.out)) HBC.out
                · obtain rfl := List.mem_singleton.1 h
                  exact own_less HO13.out HSZZ.out
              refine h3.fr (Fr.of_grown hg5) (fun b hb e => ?_)
              obtain ⟨_, _, cs, fz, h4⟩ := h3.lt hb
              rcases (own_below HOZ.out HBC.out).2 with ⟨e1, _⟩ | ⟨g2, cap, cur, e1, _, e3, _⟩
              · rw [e1] at e; cases e
              · rw [e1] at e
                obtain rfl : g2 = b := by simpa [Value.ownBlock] using e
                rw [h4] at e3; cases e3)
            have HB5 := Lib.hid (show Below w.heap.size w w5 from (HBZW.out.trans (HBC.out.mono HBZW.out.size)).grown hg5 (Nat.le_trans HBZW.out.size HBC.out.size) (fun b hb => Nat.le_of_succ_le (HOZ.out.lt b hb).1))
            have HSZ5 := Lib.hid (Nat.le_trans (Nat.le_trans HSZZ.out HBC.out.size) hg5.size)
            clear ho5 hg5 hlt5 hne5 hks5 hko5
            refine take_want (i := 17) (v := ?v17k19) rfl (by kernel_rfl) (by kernel_rfl) (by kernel_rfl) (fun _ _ _ h => h) (by rfl) ?y17k19 (by assumption) ?r17k19
            case y17k19 => (intro w hSw; go_simp; all_goals with_reducible rfl)
            (try simp only [Act.put, List.setIfInBounds_toArray, List.set_cons_zero, List.set_cons_succ])
            refine take_want (i := 18) (v := ?v18k20) rfl (by kernel_rfl) (by kernel_rfl) (by kernel_rfl) (fun _ _ _ h => h) (by rfl) ?y18k20 (by assumption) ?r18k20
            case y18k20 => (intro w hSw; go_simp; all_goals with_reducible rfl)
            (try simp only [Act.put, List.setIfInBounds_toArray, List.set_cons_zero, List.set_cons_succ])
            refine wpAnyH_ready (rs := [19]) (by kernel_rfl) (by simp) ?_
            refine AllReadyH.cons rfl (fun K hK => ?_) AllReadyH.nil
            have o2 : w5.cell? ⟨o, 2, none⟩ = some (.slice A' j c') := by simpa using HK5.out.cell 2
            have of2 := HK5.out.frozen 2
            go_simp
            have hgo : g ≠ o := by have := HG.out; have := HO.out; have := HST.out.size; omega
            have hf6 : Fr (fun i => i = o) w5 (w5.setCell ⟨o, 2, none⟩ (.slice A5 (j + 1) c5)) := (Fr.refl (fun i => i = o) w5).set_ (.inl (show o = o from rfl)) _
            have hk6 := HK5.out.set_ 2 (.slice A5 (j + 1) c5)
            refine hK.out _ _ ((hf6.block g hHeld.lt hgo).trans hHeld) (fun hHeld => ?_)
            clear hK K
            (try simp only [Act.put, List.setIfInBounds_toArray, List.set_cons_zero, List.set_cons_succ])
            refine wpAnyH_done (by kernel_rfl) ?_ _
            have HCR := Lib.hid (show CrSt t w (w5.setCell ⟨o, 2, none⟩ (.slice A5 (j + 1) c5)) o rm (j + 1) c5 A5 R.F (G ++ [⟨f.name, A1, m, c1, m, f.bs.take m⟩]) from ⟨hk6, own_fr2 HO5.out hf6 (fun b hb e => by have := (HO5.out.lt b hb).1; have := HO.out; omega), fun x hx => (HF5.out x hx).fr hf6 (fun b hb e => by have := ((HF5.out x hx).lt hb).2.1; have := HO.out; omega), by rw [List.map_append, HST.out.map, HTK.out, HKC.out]; rfl, bset HB5.out (by have := HO.out; omega) _, by have := hf6.size; have := HSZ5.out; omega⟩)
            clear o2 of2 hgo hf6 hk6 hHeld
            go_wp2_with fail
            go_roundw
            case rel => exact ⟨j + 1, c5, A5, _, by omega, by go_num, HCR⟩
            case measure => simp [intOf]; omega
          · go_simp
            obtain ⟨w3, hw3⟩ : ∃ w3, w3 = w2.alloc (.cells #[.string f.name, .slice A1 m c1, .int .i64 m] 66) := ⟨_, rfl⟩
            have hb3 : Below w2.heap.size w2 w3 := by rw [hw3]; exact bpush (Below.refl _ _) _
            have HN3 := Lib.hid (show Row w3 (some ⟨w2.heap.size, 0, none⟩) (cellsF [⟨f.name, A1, m, c1, m, f.bs.take m⟩]) by rw [cellsF_one, hw3]; exact Row.made rfl rfl)
            have HO13 := Lib.hid (own_below HO1.out hb3)
            have HBC := Lib.hid (HBC.out.trans (hb3.mono HBC.out.size))
            rw [← hw3]
            refine hK.out _ _ ((HBC.out.block _ HKZ.out.lt).trans HKZ.out) (fun hHeld => ?_)
            clear hK K hb3 hw3
            (try simp only [Act.put, List.setIfInBounds_toArray, List.set_cons_zero, List.set_cons_succ])
            refine wpAnyH_ready (rs := [4]) (by kernel_rfl) (by simp) ?_
            refine AllReadyH.cons rfl (fun K hK => ?_) AllReadyH.nil
            have o2 : World.cell? w3 ⟨o, 2, none⟩ = some (.slice A' j c') := cell_on HBC.out HO2.out
            go_simp
            clear o2
            refine hK.out _ _ hHeld (fun hHeld => ?_)
            clear hK K
            (try simp only [Act.put, List.setIfInBounds_toArray, List.set_cons_zero, List.set_cons_succ])
            refine wpAnyH_ready (rs := [16]) (by kernel_rfl) (by simp) ?_
            refine AllReadyH.cons rfl (fun K hK => ?_) AllReadyH.nil
            refine step_append_files _ _ rfl (w.heap.size + 1) (.slice A' j c') j (cellsF G) (by first | rfl | (simp; done) | (simp; rfl)) (some ⟨w2.heap.size, 0, none⟩) 1 1 [⟨f.name, A1, m, c1, m, f.bs.take m⟩] rfl (own_below HOZ.out HBC.out) HN3.out rfl (Nat.le_refl _) (fun h => by cases h) HE16.out (Nat.le_trans HSZZ.out HBC.out.size) ?_
            intro v5 w5 ho5 hg5
            obtain ⟨A5, c5, rfl⟩ : ∃ A5 c5, v5 = .slice A5 (j + 1) c5 := (by obtain ⟨A5, c5, e, _⟩ := own_sl ho5; exact ⟨A5, c5, e⟩)
            have hlt5 := (own_below HOZ.out HBC.out).lt
            have hne5 : ∀ b, (Value.slice A' j c').ownBlock = some b → b < wz.heap.size ∧ b ≠ g ∧ b ≠ o := fun b hb => ⟨(HOZ.out.lt b hb).2, (by have := (HST.out.own.lt b hb).2; have := HG.out; omega), (by have := (HOZ.out.lt b hb).1; have := HO.out; omega)⟩
            have hks5 : Blk w5 g 66 #[.string f.name, .slice f.A f.n f.c, .int .i64 f.safe] := (hg5.block _ (Nat.lt_of_lt_of_le HKZ.out.lt HBC.out.size) (fun e => (hne5 g e.symm).2.1 rfl)).trans ((HBC.out.block _ HKZ.out.lt).trans HKZ.out)
            have hko5 : Blk w5 o 60 #[.int .i64 rm, .int .i64 (-1), .slice A' j c'] := (hg5.block _ (Nat.lt_of_lt_of_le HKO.out.lt HBC.out.size) (fun e => (hne5 o e.symm).2.2 rfl)).trans ((HBC.out.block _ HKO.out.lt).trans HKO.out)
            refine hK.out _ _ hks5 (fun hHeld => ?_)
            clear hK K
            (try simp only [Act.put, List.setIfInBounds_toArray, List.set_cons_zero, List.set_cons_succ])
            have HO5 := Lib.hid (show w5.ownsRow (w.heap.size + 1) 66 3 (.slice A5 (j + 1) c5) (j + 1) (cellsF (G ++ [⟨f.name, A1, m, c1, m, f.bs.take m⟩])) by rw [cellsF_app]; exact ho5)
            have HK5 := Lib.hid hko5
            have HF5 := Lib.hid (show ∀ x ∈ G ++ [(⟨f.name, A1, m, c1, m, f.bs.take m⟩ : FZ)], OwnF w5 (w.heap.size + 1) x from fun x hx => by
              have h3 : OwnF w3 (w.heap.size + 1) x := by
                rcases List.mem_append.1 hx with h | h
                · exact own_below ((own_below (HST.out.files x h) HBZ.out)) HBC.out
                · obtain rfl := List.mem_singleton.1 h
                  exact own_less HO13.out HSZZ.out
              refine h3.fr (Fr.of_grown hg5) (fun b hb e => ?_)
              obtain ⟨_, _, cs, fz, h4⟩ := h3.lt hb
              rcases (own_below HOZ.out HBC.out).2 with ⟨e1, _⟩ | ⟨g2, cap, cur, e1, _, e3, _⟩
              · rw [e1] at e; cases e
              · rw [e1] at e
                obtain rfl : g2 = b := by simpa [Value.ownBlock] using e
                rw [h4] at e3; cases e3)
            have HB5 := Lib.hid (show Below w.heap.size w w5 from (HBZW.out.trans (HBC.out.mono HBZW.out.size)).grown hg5 (Nat.le_trans HBZW.out.size HBC.out.size) (fun b hb => Nat.le_of_succ_le (HOZ.out.lt b hb).1))
            have HSZ5 := Lib.hid (Nat.le_trans (Nat.le_trans HSZZ.out HBC.out.size) hg5.size)
            clear ho5 hg5 hlt5 hne5 hks5 hko5
            refine take_want (i := 17) (v := ?v17k21) rfl (by kernel_rfl) (by kernel_rfl) (by kernel_rfl) (fun _ _ _ h => h) (by rfl) ?y17k21 (by assumption) ?r17k21
            case y17k21 => (intro w hSw; go_simp; all_goals with_reducible rfl)
            (try simp only [Act.put, List.setIfInBounds_toArray, List.set_cons_zero, List.set_cons_succ])
            refine take_want (i := 18) (v := ?v18k22) rfl (by kernel_rfl) (by kernel_rfl) (by kernel_rfl) (fun _ _ _ h => h) (by rfl) ?y18k22 (by assumption) ?r18k22
            case y18k22 => (intro w hSw; go_simp; all_goals with_reducible rfl)
            (try simp only [Act.put, List.setIfInBounds_toArray, List.set_cons_zero, List.set_cons_succ])
            refine wpAnyH_ready (rs := [19]) (by kernel_rfl) (by simp) ?_
            refine AllReadyH.cons rfl (fun K hK => ?_) AllReadyH.nil
            have o2 : w5.cell? ⟨o, 2, none⟩ = some (.slice A' j c') := by simpa using HK5.out.cell 2
            have of2 := HK5.out.frozen 2
            go_simp
            have hgo : g ≠ o := by have := HG.out; have := HO.out; have := HST.out.size; omega
            have hf6 : Fr (fun i => i = o) w5 (w5.setCell ⟨o, 2, none⟩ (.slice A5 (j + 1) c5)) := (Fr.refl (fun i => i = o) w5).set_ (.inl (show o = o from rfl)) _
            have hk6 := HK5.out.set_ 2 (.slice A5 (j + 1) c5)
            refine hK.out _ _ ((hf6.block g hHeld.lt hgo).trans hHeld) (fun hHeld => ?_)
            clear hK K
            (try simp only [Act.put, List.setIfInBounds_toArray, List.set_cons_zero, List.set_cons_succ])
            refine wpAnyH_done (by kernel_rfl) ?_ _
            have HCR := Lib.hid (show CrSt t w (w5.setCell ⟨o, 2, none⟩ (.slice A5 (j + 1) c5)) o rm (j + 1) c5 A5 R.F (G ++ [⟨f.name, A1, m, c1, m, f.bs.take m⟩]) from ⟨hk6, own_fr2 HO5.out hf6 (fun b hb e => by have := (HO5.out.lt b hb).1; have := HO.out; omega), fun x hx => (HF5.out x hx).fr hf6 (fun b hb e => by have := ((HF5.out x hx).lt hb).2.1; have := HO.out; omega), by rw [List.map_append, HST.out.map, HTK.out, HKC.out]; rfl, bset HB5.out (by have := HO.out; omega) _, by have := hf6.size; have := HSZ5.out; omega⟩)
            clear o2 of2 hgo hf6 hk6 hHeld
            go_wp2_with fail
            go_roundw
            case rel => exact ⟨j + 1, c5, A5, _, by omega, by go_num, HCR⟩
            case measure => simp [intOf]; omega
    · obtain rfl : j = n := by omega
      have hge : ¬ (j : Int) < (j : Int) := by omega
      rw [HA.out] at a2
      have HMP := Lib.hid (show G.map normF = (crashS t P).F from by
        have h := HST.out.map
        rw [List.take_of_length_le (by have := HN.out; omega)] at h
        rw [h]
        show _ = P.F.map (chF (kC t))
        rw [← HI.out.F, List.map_map]
        rfl)
      clear hlt
      go_wp2_with fail
      go_ret
      have hown := HST.out.own
      obtain ⟨A9, c9, e9, hrow, hcc, hnil, hfar⟩ := own_sl hown
      cases e9
      have hl : j = G.length := by
        have h := congrArg List.length HMP.out
        have h2 : (crashS t P).F.length = P.F.length := List.length_map ..
        rw [List.length_map, h2, ← HI.out.len, ← HN.out] at h
        exact h.symm
      have hrows : ∀ i, RRows ⟨rm, -1, A', j, c', G⟩ i → w.heap.size + 1 ≤ i := fun i hi => by
        rcases hi with ⟨_, o1, e⟩ | ⟨x, hx, hne, o1, e⟩
        · exact hfar i o1 e
        · have h := HST.out.files x hx
          rcases h.2 with ⟨e1, _⟩ | ⟨g2, cap, cur, e1, e2, _⟩
          · injection e1 with e1 _ _
            rw [e1] at e; cases e
          · injection e1 with e1 _ _
            rw [e1] at e
            cases e
            exact e2
      refine ⟨o, ⟨rm, -1, A', j, c', G⟩, rfl, ⟨?_, rfl, HMP.out⟩, ⟨HST.out.blk, hrow, hl, hcc, hnil, fun x hx => ?_, fun i hi e => ?_⟩, HST.out.below, by rw [HO.out]; exact Nat.le_refl _, fun i hi => Nat.le_of_succ_le (hrows i hi)⟩
      · show rm = P.room
        rw [HRM.out]; exact HI.out.room
      · have h := HST.out.files x hx
        obtain ⟨A8, c8, e8, h1, h2, h3, _⟩ := own_sl h
        cases e8
        exact ⟨h1, h.n, h2, h3⟩
      · have := hrows i hi; have := HO.out; omega
end Go.Proofs.Ytaahomohhagcoaa
