/- SchemaOne's walk. -/
import Derived.Test.YtbecgknahhhfiaaRC
import Derived.Deep.DeepCutAuto
import Derived.Deep.RegionHeld3
namespace Go.Proofs.Ytbecgknahhhfiaa
open Go.RowKit
set_option linter.unusedSimpArgs false
set_option linter.unusedVariables false
theorem row_some {w : World} {A : Option Addr} {L : List ByteArray} (h : Row w A (texts L)) (hl : 0 < L.length) : ∃ b off, A = some ⟨b, off, none⟩ := by
  obtain ⟨b, off, e, _⟩ := text_cell h hl; exact ⟨b, off, e⟩
theorem row_cut {w : World} {b off c n k : Nat} {L : List ByteArray} (h : Row w (some ⟨b, off, none⟩) (texts L)) (hn : n = L.length) (hnc : n ≤ c) (hk : k ≤ n) (o : Nat) (ho : o = if c = k then off else off + k) : Row w (some ⟨b, o, none⟩) (texts (L.drop k)) := by
  have := cut_case h hn hnc k hk
  subst ho
  split at this
  · rename_i e; rw [if_pos e]; exact this
  · rename_i e; rw [if_neg e]
    have e2 : (⟨b, off, none⟩ : Addr).add k = ⟨b, off + k, none⟩ := by
      unfold Addr.add; split
      · rename_i h; subst h; rfl
      · rfl
    simpa [e2] using this
theorem slice_hi (A : Option Addr) (n c k : Nat) (h : k ≤ c) (h0 : 0 < c) (W : World) : Sem.run Try.prog (Instr.slice 22 (.slice A n c) none (some (.int .i64 (k : Int))) none) W = .ok (.slice A k c) W := by
  have hs : ∀ W, Sem.run Try.prog (Go.sizeOf (Try.prog.elem 22)) W = .ok 1 W := fun _ => by kernel_rfl
  have e : Try.prog.elem 22 = 9 := by kernel_rfl
  rw [run_slice_h W 22 A n c (by rw [e]; exact Try.underlying22) .i64 k (by omega) (by omega), hs]
  have : ¬ c = 0 := by omega
  cases A <;> simp [Result.andThen, sliced, this, Addr.add]
theorem slice_lo (b off n c k : Nat) (o : Nat) (ho : o = if c = k then off else off + k) (h : k ≤ n) (W : World) : Sem.run Try.prog (Instr.slice 22 (.slice (some ⟨b, off, none⟩) n c) (some (.int .i64 (k : Int))) none none) W = .ok (.slice (some ⟨b, o, none⟩) (n - k) (c - k)) W := by
  have hs : ∀ W, Sem.run Try.prog (Go.sizeOf (Try.prog.elem 22)) W = .ok 1 W := fun _ => by kernel_rfl
  have e : Try.prog.elem 22 = 9 := by kernel_rfl
  rw [run_slice_l W 22 (some ⟨b, off, none⟩) n c (by rw [e]; exact Try.underlying22) .i64 k (by omega) (by omega), hs]
  have e2 : (⟨b, off, none⟩ : Addr).add k = ⟨b, off + k, none⟩ := by
    unfold Addr.add; split
    · rename_i h; subst h; rfl
    · rfl
  subst ho
  simp only [Result.andThen, sliced, Int.toNat_natCast, Nat.mul_one, Option.map_some, e2]
  split <;> rfl
set_option maxRecDepth 100000 in
set_option maxHeartbeats 60000000 in
theorem one_walk (A B E F : Option Addr) (n c m d p q x y : Nat) (t i : Int) (L M D : List ByteArray) (X : List Int) (w : World) (hA : Row w A (texts L)) (hB : Row w B (texts M)) (hE : Row w E (texts D)) (hF : Row w F (X.map (Value.int .i64)))
    (hn : n = L.length) (hm : m = M.length) (hp : p = D.length) (hx : x = X.length) (hnc : n ≤ c) (hmd : m ≤ d) (hpq : p ≤ q) (ha : A = none → c = 0) (hb : B = none → d = 0)
    (hL : ∀ s ∈ L, s.size ≤ 9223372036854775807) (hM : ∀ s ∈ M, s.size ≤ 9223372036854775807) (hD : ∀ s ∈ D, s.size ≤ 9223372036854775807)
    (hc2 : c ≤ 9223372036854775807) (hm2 : m ≤ 9223372036854775807) (hq2 : q ≤ 9223372036854775807) (hx2 : x ≤ 9223372036854775807) :
    Calls Try.prog 6 #[.agg #[.slice A n c, .slice B m d], .agg #[.int .i64 t, .slice E p q, .slice F x y], .int .i64 i] w fun e w' => e = .returned (.bool true) ∧ Below w.heap.size w w' := by
  have HN := Lib.hid hn
  have HM := Lib.hid hm
  have HP := Lib.hid hp
  have HX := Lib.hid hx
  have Ha := Lib.hid ha
  have Hb := Lib.hid hb
  have HL := Lib.hid hL
  have HLM := Lib.hid hM
  have HD := Lib.hid hD
  obtain ⟨f1, hf1⟩ := bool_of (fitsP L)
  obtain ⟨f2, hf2⟩ := bool_of (fitsP D)
  obtain ⟨r, hr⟩ := bool_of (rightP L M)
  have HF1 := Lib.hid hf1
  have HF2 := Lib.hid hf2
  have HR := Lib.hid hr
  have HRP := Lib.hid (show r = true → rightP L M from hr.1)
  have HN20 := Lib.hid (show f1 = true → n ≤ 20 from fun e => by have := (hf1.1 e).1; omega)
  have HP20 := Lib.hid (show f2 = true → p ≤ 20 from fun e => by have := (hf2.1 e).1; omega)
  have bel : ∀ o1 o2, Below w.heap.size w ((w.alloc o1).alloc o2) := fun o1 o2 => bthen (bpush (Below.refl _ _) _) (bpush (Below.refl _ _) _)
  obtain ⟨W1, hW1⟩ : ∃ W1, W1 = ((w.alloc (.cells #[.slice A n c, .slice B m d] 24)).alloc (.cells #[.int .i64 t, .slice E p q, .slice F x y] 27)) := ⟨_, rfl⟩
  have hb1 : Below w.heap.size w W1 := by rw [hW1]; exact bel _ _
  have HA := Lib.hid (hA.keep (Nat.le_refl _) hb1)
  have HB := Lib.hid (hB.keep (Nat.le_refl _) hb1)
  have HE := Lib.hid (hE.keep (Nat.le_refl _) hb1)
  have HF := Lib.hid (hF.keep (Nat.le_refl _) hb1)
  have s0 : W1.cell? ⟨w.heap.size, 0, none⟩ = some (.slice A n c) := by rw [hW1]; simp
  have s1 : W1.cell? ⟨w.heap.size, 1, none⟩ = some (.slice B m d) := by rw [hW1]; simp
  have c0 : W1.cell? ⟨w.heap.size + 1, 0, none⟩ = some (.int .i64 t) := by rw [hW1]; exact cell_made (by simp) rfl
  have c1 : W1.cell? ⟨w.heap.size + 1, 1, none⟩ = some (.slice E p q) := by rw [hW1]; exact cell_made (by simp) rfl
  have c2 : W1.cell? ⟨w.heap.size + 1, 2, none⟩ = some (.slice F x y) := by rw [hW1]; exact cell_made (by simp) rfl
  have HB1 := Lib.hid hb1
  have HW1 := Lib.hid hW1
  have hsz : w.heap.size + 1 < W1.heap.size := by rw [hW1]; simp
  clear hA hB hE hF hn hm hp hx ha hb hL hM hD hf1 hf2 hr bel hW1 hb1
  go_enter Try.func6, Try.ntmps6
  go_wp2_with fail
  rw [← HW1.out]
  refine (fits_any A n c L _ HA.out HN.out (by omega) f1 HF1.out).mono ?_
  rintro e w1 ⟨rfl, rfl⟩
  go_wp2_with fail
  refine (fits_any E p q D _ HE.out HP.out (by omega) f2 HF2.out).mono ?_
  rintro e w1 ⟨rfl, rfl⟩
  cases f1 with
  | false =>
    go_wp2_with fail
    refine (alive_any _).mono ?_
    rintro e w1 ⟨rfl, hb⟩
    go_wp2_with fail
    go_ret
    exact ⟨rfl, bthen HB1.out hb⟩
  | true =>
  cases f2 with
  | false =>
    go_wp2_with fail
    refine (alive_any _).mono ?_
    rintro e w1 ⟨rfl, hb⟩
    go_wp2_with fail
    go_ret
    exact ⟨rfl, bthen HB1.out hb⟩
  | true =>
  have hn20 : n ≤ 20 := HN20.out rfl
  have hp20 : p ≤ 20 := HP20.out rfl
  go_wp2_with fail
  refine (right_any A B n c m d L M _ HA.out HB.out HN.out HM.out hnc hmd Ha.out Hb.out HL.out HLM.out (by omega) (by omega) r HR.out).mono ?_
  rintro e w1 ⟨rfl, hb⟩
  have HB2 := Lib.hid hb
  have hsz1 : w.heap.size + 1 < w1.heap.size := Nat.lt_of_lt_of_le hsz hb.size
  obtain ⟨t0, t1, d0, d1, d2⟩ : w1.cell? ⟨w.heap.size, 0, none⟩ = some (.slice A n c) ∧ w1.cell? ⟨w.heap.size, 1, none⟩ = some (.slice B m d) ∧ w1.cell? ⟨w.heap.size + 1, 0, none⟩ = some (.int .i64 t) ∧ w1.cell? ⟨w.heap.size + 1, 1, none⟩ = some (.slice E p q) ∧ w1.cell? ⟨w.heap.size + 1, 2, none⟩ = some (.slice F x y) :=
    ⟨cell_on hb s0, cell_on hb s1, cell_on hb c0, cell_on hb c1, cell_on hb c2⟩
  have HA1 := Lib.hid (HA.out.keep (Nat.le_refl _) hb)
  have HB1' := Lib.hid (HB.out.keep (Nat.le_refl _) hb)
  have HE1 := Lib.hid (HE.out.keep (Nat.le_refl _) hb)
  have HF1' := Lib.hid (HF.out.keep (Nat.le_refl _) hb)
  have HBw := Lib.hid (bthen HB1.out hb)
  clear hb s0 s1 c0 c1 c2
  cases r with
  | false =>
    go_wp2_with fail
    refine (alive_any _).mono ?_
    rintro e w2 ⟨rfl, hb⟩
    go_wp2_with fail
    go_ret
    exact ⟨rfl, bthen HBw.out hb⟩
  | true =>
  have hrp := HRP.out rfl
  have HRR := Lib.hid hrp
  have hm4 : m ≤ 4 := by have := HM.out; have := hrp.2.2.1; omega
  clear hrp
  by_cases h2 : n < 2
  · have e1 : decide ((n : Int) < 2) = true := by simp; omega
    clear h2
    go_wp2_with fail
    refine (alive_any _).mono ?_
    rintro e w2 ⟨rfl, hb⟩
    go_wp2_with fail
    go_ret
    exact ⟨rfl, bthen HBw.out hb⟩
  have e1 : decide ((n : Int) < 2) = false := by simp; omega
  by_cases h20 : 20 < x
  · have e2 : decide ((20 : Int) < (x : Int)) = true := by simp; omega
    clear h20 h2
    go_wp2_with fail
    refine (alive_any _).mono ?_
    rintro e w2 ⟨rfl, hb⟩
    go_wp2_with fail
    go_ret
    exact ⟨rfl, bthen HBw.out hb⟩
  have e2 : decide ((20 : Int) < (x : Int)) = false := by simp; omega
  have h22 : 2 ≤ n := by omega
  obtain ⟨qi, hqi, hqe⟩ := and1023 i
  obtain ⟨k, hk⟩ : ∃ k, k = qi % n := ⟨_, rfl⟩
  have hkn : k < n := by rw [hk]; exact Nat.mod_lt _ (by omega)
  have hr1 : ((qi : Int)) % (n : Int) = (k : Int) := by rw [hk]; omega
  have hr2 : ((qi : Int)).tmod (n : Int) = (k : Int) := by rw [Int.tmod_eq_emod_of_nonneg (by omega)]; exact hr1
  have hr3 : IntKind.i64.wrap (k : Int) = (k : Int) := IntWalk.i64_in _ (by omega)
  have hn0 : ¬ (n : Int) = 0 := by omega
  have hn1 : ((n : Int) == 0) = false := by rw [beq_eq_false_iff_ne]; omega
  obtain ⟨b, off, rfl⟩ := row_some HA1.out (by have := HN.out; omega)
  have hw1 : IntKind.i64.wrap ((k : Int) + 1) = (k : Int) + 1 := IntWalk.i64_in _ (by omega)
  have hw2 : ((k : Int) + 1).toNat = k + 1 := by omega
  have hw3 : (0 : Int) ≤ (k : Int) + 1 := by omega
  have hw4 : (k : Int) + 1 ≤ (n : Int) := by omega
  have hw5 : (k : Int) ≤ (c : Int) := by omega
  have hw6 : (0 : Int) ≤ (k : Int) := by omega
  have hk2 : k ≤ n := by omega
  have hkc : k ≤ c := by omega
  have hkc1 : k + 1 ≤ n := by omega
  have hc0 : ¬ c = 0 := by omega
  have hc00 : ¬ 0 = c := by omega
  clear h2 h20 hk
  obtain ⟨o, ho⟩ : ∃ o, o = if c = k + 1 then off else off + (k + 1) := ⟨_, rfl⟩
  have HC := Lib.hid (row_cut (c := c) (k := k + 1) HA1.out HN.out hnc (by omega) o ho)
  have sl1 := slice_hi (some ⟨b, off, none⟩) n c k (by omega) (by omega)
  have sl2 : ∀ W, Sem.run Try.prog (Instr.slice 22 (.slice (some ⟨b, off, none⟩) n c) (some (.int .i64 ((k : Int) + 1))) none none) W = .ok (.slice (some ⟨b, o, none⟩) (n - (k + 1)) (c - (k + 1))) W := fun W => by
    have := slice_lo b off n c (k + 1) o ho (by omega) W
    have ec : ((k + 1 : Nat) : Int) = (k : Int) + 1 := by omega
    rw [ec] at this; exact this
  clear ho
  go_upto_region 6 with fail
  go_cut [10] (fun s10 wx => ∃ (g : Nat) (A5 : Option Addr) (c5 : Nat), s10 = .pointer (some ⟨g, 0, none⟩) ∧ Alc wx w1.heap.size g (.slice none 0 0) (.slice A5 (n - 1) c5) (.slice B m d) ∧ Row wx A5 (texts (L.take k ++ L.drop (k + 1))) ∧ n - 1 ≤ c5 ∧ c5 ≤ maxLen ∧ (A5 = none → c5 = 0) ∧ Below w1.heap.size w1 wx)
  case first =>
    refine wp_region_held_drew (S := fun w' => Below w1.heap.size w1 w') (by kernel_rfl) (below_drewN (Below.refl _ _) 1) ?_
    intro hHeld
    refine take_want (i := 1) (v := ?v1k1) rfl (by kernel_rfl) (by kernel_rfl) (by kernel_rfl) (fun _ _ _ h => h) (by rfl) ?y1k1 (by assumption) ?r1k1
    case y1k1 => (intro w hSw; go_simp; all_goals with_reducible rfl)
    (try simp only [Act.put, List.setIfInBounds_toArray, List.set_cons_zero, List.set_cons_succ])
    refine take_want (i := 2) (v := ?v2k2) rfl (by kernel_rfl) (by kernel_rfl) (by kernel_rfl) (fun _ _ _ h => h) (by rfl) ?y2k2 (by assumption) ?r2k2
    case y2k2 => (intro w hSw; have q0 := cell_on hSw t0; have q1 := cell_on hSw t1; go_simp; all_goals with_reducible rfl)
    (try simp only [Act.put, List.setIfInBounds_toArray, List.set_cons_zero, List.set_cons_succ])
    refine take_want (i := 3) (v := ?v3k3) rfl (by kernel_rfl) (by kernel_rfl) (by kernel_rfl) (fun _ _ _ h => h) (by rfl) ?y3k3 (by assumption) ?r3k3
    case y3k3 => (intro w hSw; go_simp; all_goals with_reducible rfl)
    (try simp only [Act.put, List.setIfInBounds_toArray, List.set_cons_zero, List.set_cons_succ])
    refine take_want (i := 4) (v := ?v4k4) rfl (by kernel_rfl) (by kernel_rfl) (by kernel_rfl) (fun _ _ _ h => h) (by rfl) ?y4k4 (by assumption) ?r4k4
    case y4k4 => (intro w hSw; go_simp; all_goals first | exact sl1 _ | with_reducible rfl)
    (try simp only [Act.put, List.setIfInBounds_toArray, List.set_cons_zero, List.set_cons_succ])
    refine take_want (i := 6) (v := ?v6k5) rfl (by kernel_rfl) (by kernel_rfl) (by kernel_rfl) (fun _ _ _ h => h) (by rfl) ?y6k5 (by assumption) ?r6k5
    case y6k5 => (intro w hSw; go_simp; all_goals with_reducible rfl)
    (try simp only [Act.put, List.setIfInBounds_toArray, List.set_cons_zero, List.set_cons_succ])
    refine take_want (i := 7) (v := ?v7k6) rfl (by kernel_rfl) (by kernel_rfl) (by kernel_rfl) (fun _ _ _ h => h) (by rfl) ?y7k6 (by assumption) ?r7k6
    case y7k6 => (intro w hSw; have q0 := cell_on hSw t0; have q1 := cell_on hSw t1; go_simp; all_goals with_reducible rfl)
    (try simp only [Act.put, List.setIfInBounds_toArray, List.set_cons_zero, List.set_cons_succ])
    refine take_want (i := 8) (v := ?v8k7) rfl (by kernel_rfl) (by kernel_rfl) (by kernel_rfl) (fun _ _ _ h => h) (by rfl) ?y8k7 (by assumption) ?r8k7
    case y8k7 => (intro w hSw; go_simp; all_goals with_reducible rfl)
    (try simp only [Act.put, List.setIfInBounds_toArray, List.set_cons_zero, List.set_cons_succ])
    refine take_want (i := 9) (v := ?v9k8) rfl (by kernel_rfl) (by kernel_rfl) (by kernel_rfl) (fun _ _ _ h => h) (by rfl) ?y9k8 (by assumption) ?r9k8
    case y9k8 => (intro w hSw; go_simp; all_goals with_reducible rfl)
    (try simp only [Act.put, List.setIfInBounds_toArray, List.set_cons_zero, List.set_cons_succ])
    refine take_want (i := 10) (v := ?v10k9) rfl (by kernel_rfl) (by kernel_rfl) (by kernel_rfl) (fun _ _ _ h => h) (by rfl) ?y10k9 (by assumption) ?r10k9
    case y10k9 => (intro w hSw; go_simp; all_goals first | exact sl2 _ | with_reducible rfl)
    (try simp only [Act.put, List.setIfInBounds_toArray, List.set_cons_zero, List.set_cons_succ])
    refine take_want (i := 12) (v := ?v12k10) rfl (by kernel_rfl) (by kernel_rfl) (by kernel_rfl) (fun _ _ _ h => h) (by rfl) ?y12k10 (by assumption) ?r12k10
    case y12k10 => (intro w hSw; go_simp; all_goals with_reducible rfl)
    (try simp only [Act.put, List.setIfInBounds_toArray, List.set_cons_zero, List.set_cons_succ])
    refine take_want (i := 13) (v := ?v13k11) rfl (by kernel_rfl) (by kernel_rfl) (by kernel_rfl) (fun _ _ _ h => h) (by rfl) ?y13k11 (by assumption) ?r13k11
    case y13k11 => (intro w hSw; have q0 := cell_on hSw t0; have q1 := cell_on hSw t1; go_simp; all_goals with_reducible rfl)
    (try simp only [Act.put, List.setIfInBounds_toArray, List.set_cons_zero, List.set_cons_succ])
    refine wpAnyH_ready (rs := [0, 15]) (by kernel_rfl) (by simp) ?_
    refine AllReadyH.cons rfl (fun K hK => ?_) (AllReadyH.cons rfl (fun K hK => ?_) AllReadyH.nil)
    · go_simp
      have hsp := hHeld.size
      refine hK.out _ _ (hHeld.alloc hHeld.size _) (fun hHeld => ?_)
      clear hK K
      (try simp only [Act.put, List.setIfInBounds_toArray, List.set_cons_zero, List.set_cons_succ])
      have HO1 := Lib.hid (own_empty (t := 9) (size := 1) hsp)
      refine wpAnyH_ready (rs := [5, 15]) (by kernel_rfl) (by simp) ?_
      refine AllReadyH.cons rfl (fun K hK => ?_) (AllReadyH.cons rfl (fun K hK => ?_) AllReadyH.nil)
      · refine step_append_texts rfl _ _ rfl w1.heap.size _ 0 [] (by first | rfl | (simp; done) | (simp; rfl)) (some ⟨b, off, none⟩) k c (L.take k) rfl HO1.out ((HA1.out.front k).keep (Nat.le_refl _) hHeld) (by rw [List.length_take]; have := HN.out; omega) (by omega) (fun h => by cases h) (by omega) hHeld.size ?_
        intro v1 w2 ho1 hg1 hd1
        refine hK.out _ _ (hHeld.trans (grown_below HO1.out hg1 hHeld.size)) (fun hHeld => ?_)
        clear hK K
        (try simp only [Act.put, List.setIfInBounds_toArray, List.set_cons_zero, List.set_cons_succ])
        have HO2 := Lib.hid ho1
        clear ho1 hg1 hd1
        refine wpAnyH_ready (rs := [11, 15]) (by kernel_rfl) (by simp) ?_
        refine AllReadyH.cons rfl (fun K hK => ?_) (AllReadyH.cons rfl (fun K hK => ?_) AllReadyH.nil)
        · refine step_append_texts rfl _ _ rfl w1.heap.size v1 (0 + k) ([] ++ texts (L.take k)) rfl (some ⟨b, o, none⟩) (n - (k + 1)) (c - (k + 1)) (L.drop (k + 1)) rfl HO2.out (HC.out.keep (Nat.le_refl _) hHeld) (by rw [List.length_drop]; have := HN.out; omega) (by omega) (fun h => by cases h) (by omega) hHeld.size ?_
          intro v2 w3 ho2 hg2 hd2
          refine hK.out _ _ (hHeld.trans (grown_below HO2.out hg2 hHeld.size)) (fun hHeld => ?_)
          clear hK K
          (try simp only [Act.put, List.setIfInBounds_toArray, List.set_cons_zero, List.set_cons_succ])
          rw [show 0 + k + (n - (k + 1)) = n - 1 by omega] at ho2
          have HO3 := Lib.hid ho2
          clear ho2 hg2 hd2
          obtain ⟨A5, c5, rfl, hr5, hc5, hn5⟩ := own_slice HO3.out
          have HR5 := Lib.hid (show Row w3 A5 (texts (L.take k ++ L.drop (k + 1))) by simpa [texts] using hr5)
          clear hr5
          have HCM := Lib.hid (own_cap HO3.out)
          refine take_want (i := 14) (v := ?v14k12) rfl (by kernel_rfl) (by kernel_rfl) (by kernel_rfl) (fun _ _ _ h => h) (by rfl) ?y14k12 (by assumption) ?r14k12
          case y14k12 => (intro w hSw; go_simp; all_goals with_reducible rfl)
          (try simp only [Act.put, List.setIfInBounds_toArray, List.set_cons_zero, List.set_cons_succ])
          refine wpAnyH_ready (rs := [15]) (by kernel_rfl) (by simp) ?_
          refine AllReadyH.cons rfl (fun K hK => ?_) AllReadyH.nil
          go_simp
          have hsp := hHeld.size
          refine hK.out _ _ (hHeld.alloc hHeld.size _) (fun hHeld => ?_)
          clear hK K
          (try simp only [Act.put, List.setIfInBounds_toArray, List.set_cons_zero, List.set_cons_succ])
          have AL := Lib.hid (Alc.mk' (x := .slice none 0 0) (y := .slice none 0 0) (t := 24) hsp (own_new HO3.out))
          have HO3 := Lib.hid (HO3.out.alloc (.cells #[.slice none 0 0, .slice none 0 0] 24))
          have HR5 := Lib.hid (HR5.out.keep (Nat.le_refl _) (bpush (Below.refl _ _) (.cells #[.slice none 0 0, .slice none 0 0] 24)))
          obtain ⟨w4, hw4⟩ : ∃ w4, w4 = w3.alloc (.cells #[.slice none 0 0, .slice none 0 0] 24) := ⟨_, rfl⟩
          rw [← hw4] at hHeld AL HR5 ⊢
          clear hw4
          have AL2 := at_held (P := fun W => Alc W w1.heap.size w3.heap.size (.slice A5 (n - 1) c5) (.slice none 0 0) (.slice none 0 0)) hHeld (by first | exact AL.out | (have h9 := AL.out; simp at h9 ⊢; exact h9))
          have HAL := Lib.hid AL2
          have hr9 := at_held (P := fun W => Row W A5 (texts (L.take k ++ L.drop (k + 1)))) hHeld HR5.out
          have HR9 := Lib.hid hr9
          obtain ⟨al0, al1, al2, al3, al4⟩ := AL2
          clear hr9
          refine wpAnyH_ready (rs := [16]) (by kernel_rfl) (by simp) ?_
          refine AllReadyH.cons rfl (fun K hK => ?_) AllReadyH.nil
          go_simp
          refine hK.out _ _ ((hHeld.setCell (p := ⟨_, 0, none⟩) al0 _).setCell (p := ⟨_, 1, none⟩) al0 _) (fun hHeld2 => ?_)
          clear hK K
          (try simp only [Act.put, List.setIfInBounds_toArray, List.set_cons_zero, List.set_cons_succ])
          refine wpAnyH_done (by kernel_rfl) ?_ _
          go_wp2_with fail
          go_meet
          exact ⟨_, A5, c5, rfl, (HAL.out.fin HR9.out _ _).1, (HAL.out.fin HR9.out _ _).2, by omega, HCM.out, hn5, hHeld2⟩
        · go_simp
          have hsp := hHeld.size
          refine hK.out _ _ (hHeld.alloc hHeld.size _) (fun hHeld => ?_)
          clear hK K
          (try simp only [Act.put, List.setIfInBounds_toArray, List.set_cons_zero, List.set_cons_succ])
          have AL := Lib.hid (Alc.mk' (x := .slice none 0 0) (y := .slice none 0 0) (t := 24) hsp (own_new HO2.out))
          have HO2 := Lib.hid (HO2.out.alloc (.cells #[.slice none 0 0, .slice none 0 0] 24))
          refine wpAnyH_ready (rs := [11]) (by kernel_rfl) (by simp) ?_
          refine AllReadyH.cons rfl (fun K hK => ?_) AllReadyH.nil
          refine step_append_texts rfl _ _ rfl w1.heap.size v1 (0 + k) ([] ++ texts (L.take k)) rfl (some ⟨b, o, none⟩) (n - (k + 1)) (c - (k + 1)) (L.drop (k + 1)) rfl HO2.out (HC.out.keep (Nat.le_refl _) hHeld) (by rw [List.length_drop]; have := HN.out; omega) (by omega) (fun h => by cases h) (by omega) hHeld.size ?_
          intro v2 w3 ho2 hg2 hd2
          refine hK.out _ _ (hHeld.trans (grown_below HO2.out hg2 hHeld.size)) (fun hHeld => ?_)
          clear hK K
          (try simp only [Act.put, List.setIfInBounds_toArray, List.set_cons_zero, List.set_cons_succ])
          rw [show 0 + k + (n - (k + 1)) = n - 1 by omega] at ho2
          have HO3 := Lib.hid ho2
          have AL := Lib.hid (AL.out.row hg2 hd2)
          clear ho2 hg2 hd2
          obtain ⟨A5, c5, rfl, hr5, hc5, hn5⟩ := own_slice HO3.out
          have HR5 := Lib.hid (show Row w3 A5 (texts (L.take k ++ L.drop (k + 1))) by simpa [texts] using hr5)
          clear hr5
          have HCM := Lib.hid (own_cap HO3.out)
          refine take_want (i := 14) (v := ?v14k13) rfl (by kernel_rfl) (by kernel_rfl) (by kernel_rfl) (fun _ _ _ h => h) (by rfl) ?y14k13 (by assumption) ?r14k13
          case y14k13 => (intro w hSw; go_simp; all_goals with_reducible rfl)
          (try simp only [Act.put, List.setIfInBounds_toArray, List.set_cons_zero, List.set_cons_succ])
          have AL2 := at_held (P := fun W => Alc W w1.heap.size w2.heap.size (.slice A5 (n - 1) c5) (.slice none 0 0) (.slice none 0 0)) hHeld (by first | exact AL.out | (have h9 := AL.out; simp at h9 ⊢; exact h9))
          have HAL := Lib.hid AL2
          have hr9 := at_held (P := fun W => Row W A5 (texts (L.take k ++ L.drop (k + 1)))) hHeld HR5.out
          have HR9 := Lib.hid hr9
          obtain ⟨al0, al1, al2, al3, al4⟩ := AL2
          clear hr9
          refine wpAnyH_ready (rs := [16]) (by kernel_rfl) (by simp) ?_
          refine AllReadyH.cons rfl (fun K hK => ?_) AllReadyH.nil
          go_simp
          refine hK.out _ _ ((hHeld.setCell (p := ⟨_, 0, none⟩) al0 _).setCell (p := ⟨_, 1, none⟩) al0 _) (fun hHeld2 => ?_)
          clear hK K
          (try simp only [Act.put, List.setIfInBounds_toArray, List.set_cons_zero, List.set_cons_succ])
          refine wpAnyH_done (by kernel_rfl) ?_ _
          go_wp2_with fail
          go_meet
          exact ⟨_, A5, c5, rfl, (HAL.out.fin HR9.out _ _).1, (HAL.out.fin HR9.out _ _).2, by omega, HCM.out, hn5, hHeld2⟩
      · go_simp
        have hsp := hHeld.size
        refine hK.out _ _ (hHeld.alloc hHeld.size _) (fun hHeld => ?_)
        clear hK K
        (try simp only [Act.put, List.setIfInBounds_toArray, List.set_cons_zero, List.set_cons_succ])
        have AL := Lib.hid (Alc.mk' (x := .slice none 0 0) (y := .slice none 0 0) (t := 24) hsp (own_new HO1.out))
        have HO1 := Lib.hid (HO1.out.alloc (.cells #[.slice none 0 0, .slice none 0 0] 24))
        refine wpAnyH_ready (rs := [5]) (by kernel_rfl) (by simp) ?_
        refine AllReadyH.cons rfl (fun K hK => ?_) AllReadyH.nil
        refine step_append_texts rfl _ _ rfl w1.heap.size _ 0 [] (by first | rfl | (simp; done) | (simp; rfl)) (some ⟨b, off, none⟩) k c (L.take k) rfl HO1.out ((HA1.out.front k).keep (Nat.le_refl _) hHeld) (by rw [List.length_take]; have := HN.out; omega) (by omega) (fun h => by cases h) (by omega) hHeld.size ?_
        intro v1 w2 ho1 hg1 hd1
        refine hK.out _ _ (hHeld.trans (grown_below HO1.out hg1 hHeld.size)) (fun hHeld => ?_)
        clear hK K
        (try simp only [Act.put, List.setIfInBounds_toArray, List.set_cons_zero, List.set_cons_succ])
        have HO2 := Lib.hid ho1
        have AL := Lib.hid (AL.out.row hg1 (by simpa using hd1))
        clear ho1 hg1 hd1
        refine wpAnyH_ready (rs := [11]) (by kernel_rfl) (by simp) ?_
        refine AllReadyH.cons rfl (fun K hK => ?_) AllReadyH.nil
        refine step_append_texts rfl _ _ rfl w1.heap.size v1 (0 + k) ([] ++ texts (L.take k)) rfl (some ⟨b, o, none⟩) (n - (k + 1)) (c - (k + 1)) (L.drop (k + 1)) rfl HO2.out (HC.out.keep (Nat.le_refl _) hHeld) (by rw [List.length_drop]; have := HN.out; omega) (by omega) (fun h => by cases h) (by omega) hHeld.size ?_
        intro v2 w3 ho2 hg2 hd2
        refine hK.out _ _ (hHeld.trans (grown_below HO2.out hg2 hHeld.size)) (fun hHeld => ?_)
        clear hK K
        (try simp only [Act.put, List.setIfInBounds_toArray, List.set_cons_zero, List.set_cons_succ])
        rw [show 0 + k + (n - (k + 1)) = n - 1 by omega] at ho2
        have HO3 := Lib.hid ho2
        have AL := Lib.hid (AL.out.row hg2 hd2)
        clear ho2 hg2 hd2
        obtain ⟨A5, c5, rfl, hr5, hc5, hn5⟩ := own_slice HO3.out
        have HR5 := Lib.hid (show Row w3 A5 (texts (L.take k ++ L.drop (k + 1))) by simpa [texts] using hr5)
        clear hr5
        have HCM := Lib.hid (own_cap HO3.out)
        refine take_want (i := 14) (v := ?v14k14) rfl (by kernel_rfl) (by kernel_rfl) (by kernel_rfl) (fun _ _ _ h => h) (by rfl) ?y14k14 (by assumption) ?r14k14
        case y14k14 => (intro w hSw; go_simp; all_goals with_reducible rfl)
        (try simp only [Act.put, List.setIfInBounds_toArray, List.set_cons_zero, List.set_cons_succ])
        have AL2 := at_held (P := fun W => Alc W w1.heap.size (w1.heap.size + 1) (.slice A5 (n - 1) c5) (.slice none 0 0) (.slice none 0 0)) hHeld (by first | exact AL.out | (have h9 := AL.out; simp at h9 ⊢; exact h9))
        have HAL := Lib.hid AL2
        have hr9 := at_held (P := fun W => Row W A5 (texts (L.take k ++ L.drop (k + 1)))) hHeld HR5.out
        have HR9 := Lib.hid hr9
        obtain ⟨al0, al1, al2, al3, al4⟩ := AL2
        clear hr9
        refine wpAnyH_ready (rs := [16]) (by kernel_rfl) (by simp) ?_
        refine AllReadyH.cons rfl (fun K hK => ?_) AllReadyH.nil
        go_simp
        refine hK.out _ _ ((hHeld.setCell (p := ⟨_, 0, none⟩) al0 _).setCell (p := ⟨_, 1, none⟩) al0 _) (fun hHeld2 => ?_)
        clear hK K
        (try simp only [Act.put, List.setIfInBounds_toArray, List.set_cons_zero, List.set_cons_succ])
        refine wpAnyH_done (by kernel_rfl) ?_ _
        go_wp2_with fail
        go_meet
        exact ⟨_, A5, c5, rfl, (HAL.out.fin HR9.out _ _).1, (HAL.out.fin HR9.out _ _).2, by omega, HCM.out, hn5, hHeld2⟩
    · go_simp
      have hsp := hHeld.size
      refine hK.out _ _ (hHeld.alloc hHeld.size _) (fun hHeld => ?_)
      clear hK K
      (try simp only [Act.put, List.setIfInBounds_toArray, List.set_cons_zero, List.set_cons_succ])
      have AL := Lib.hid (Alc.mk' (v := .slice none 0 0) (x := .slice none 0 0) (y := .slice none 0 0) (t := 24) hsp (by simp [Value.ownBlock]))
      refine wpAnyH_ready (rs := [0]) (by kernel_rfl) (by simp) ?_
      refine AllReadyH.cons rfl (fun K hK => ?_) AllReadyH.nil
      go_simp
      have hsp := hHeld.size
      refine hK.out _ _ (hHeld.alloc hHeld.size _) (fun hHeld => ?_)
      clear hK K
      (try simp only [Act.put, List.setIfInBounds_toArray, List.set_cons_zero, List.set_cons_succ])
      have HO1 := Lib.hid (own_empty (t := 9) (size := 1) hsp)
      have AL := Lib.hid (AL.out.new (.cells #[] 9) 0 0)
      refine wpAnyH_ready (rs := [5]) (by kernel_rfl) (by simp) ?_
      refine AllReadyH.cons rfl (fun K hK => ?_) AllReadyH.nil
      refine step_append_texts rfl _ _ rfl w1.heap.size _ 0 [] (by first | rfl | (simp; done) | (simp; rfl)) (some ⟨b, off, none⟩) k c (L.take k) rfl HO1.out ((HA1.out.front k).keep (Nat.le_refl _) hHeld) (by rw [List.length_take]; have := HN.out; omega) (by omega) (fun h => by cases h) (by omega) hHeld.size ?_
      intro v1 w2 ho1 hg1 hd1
      refine hK.out _ _ (hHeld.trans (grown_below HO1.out hg1 hHeld.size)) (fun hHeld => ?_)
      clear hK K
      (try simp only [Act.put, List.setIfInBounds_toArray, List.set_cons_zero, List.set_cons_succ])
      have HO2 := Lib.hid ho1
      have AL := Lib.hid (AL.out.row hg1 (by simpa using hd1))
      clear ho1 hg1 hd1
      refine wpAnyH_ready (rs := [11]) (by kernel_rfl) (by simp) ?_
      refine AllReadyH.cons rfl (fun K hK => ?_) AllReadyH.nil
      refine step_append_texts rfl _ _ rfl w1.heap.size v1 (0 + k) ([] ++ texts (L.take k)) rfl (some ⟨b, o, none⟩) (n - (k + 1)) (c - (k + 1)) (L.drop (k + 1)) rfl HO2.out (HC.out.keep (Nat.le_refl _) hHeld) (by rw [List.length_drop]; have := HN.out; omega) (by omega) (fun h => by cases h) (by omega) hHeld.size ?_
      intro v2 w3 ho2 hg2 hd2
      refine hK.out _ _ (hHeld.trans (grown_below HO2.out hg2 hHeld.size)) (fun hHeld => ?_)
      clear hK K
      (try simp only [Act.put, List.setIfInBounds_toArray, List.set_cons_zero, List.set_cons_succ])
      rw [show 0 + k + (n - (k + 1)) = n - 1 by omega] at ho2
      have HO3 := Lib.hid ho2
      have AL := Lib.hid (AL.out.row hg2 hd2)
      clear ho2 hg2 hd2
      obtain ⟨A5, c5, rfl, hr5, hc5, hn5⟩ := own_slice HO3.out
      have HR5 := Lib.hid (show Row w3 A5 (texts (L.take k ++ L.drop (k + 1))) by simpa [texts] using hr5)
      clear hr5
      have HCM := Lib.hid (own_cap HO3.out)
      refine take_want (i := 14) (v := ?v14k15) rfl (by kernel_rfl) (by kernel_rfl) (by kernel_rfl) (fun _ _ _ h => h) (by rfl) ?y14k15 (by assumption) ?r14k15
      case y14k15 => (intro w hSw; go_simp; all_goals with_reducible rfl)
      (try simp only [Act.put, List.setIfInBounds_toArray, List.set_cons_zero, List.set_cons_succ])
      have AL2 := at_held (P := fun W => Alc W w1.heap.size w1.heap.size (.slice A5 (n - 1) c5) (.slice none 0 0) (.slice none 0 0)) hHeld (by first | exact AL.out | (have h9 := AL.out; simp at h9 ⊢; exact h9))
      have HAL := Lib.hid AL2
      have hr9 := at_held (P := fun W => Row W A5 (texts (L.take k ++ L.drop (k + 1)))) hHeld HR5.out
      have HR9 := Lib.hid hr9
      obtain ⟨al0, al1, al2, al3, al4⟩ := AL2
      clear hr9
      refine wpAnyH_ready (rs := [16]) (by kernel_rfl) (by simp) ?_
      refine AllReadyH.cons rfl (fun K hK => ?_) AllReadyH.nil
      go_simp
      refine hK.out _ _ ((hHeld.setCell (p := ⟨_, 0, none⟩) al0 _).setCell (p := ⟨_, 1, none⟩) al0 _) (fun hHeld2 => ?_)
      clear hK K
      (try simp only [Act.put, List.setIfInBounds_toArray, List.set_cons_zero, List.set_cons_succ])
      refine wpAnyH_done (by kernel_rfl) ?_ _
      go_wp2_with fail
      go_meet
      exact ⟨_, A5, c5, rfl, (HAL.out.fin HR9.out _ _).1, (HAL.out.fin HR9.out _ _).2, by omega, HCM.out, hn5, hHeld2⟩
  case rest =>
    obtain ⟨g, A5, c5, rfl, hal, hrow, hc5, hcm, hn5, hbw⟩ := hcut
    obtain ⟨n1, hn1⟩ : ∃ n1, n1 = n - 1 := ⟨_, rfl⟩
    rw [← hn1] at hal hc5
    unfold maxLen at hcm
    have HN1 := Lib.hid (show n1 = (lessL L k).length by rw [less_len (by have := HN.out; omega)]; have := HN.out; omega)
    have HNN := Lib.hid (show n = n1 + 1 by omega)
    have hn19 : n1 ≤ 19 := by omega
    have hn11 : 1 ≤ n1 := by omega
    have hkn1 : k ≤ n1 := by omega
    obtain ⟨al0, al1, al2, al3, al4⟩ := hal
    have RA0 := Lib.hid (HA1.out.keep (Nat.le_refl _) hbw)
    have RB0 := Lib.hid (HB1'.out.keep (Nat.le_refl _) hbw)
    have RE0 := Lib.hid (HE1.out.keep (Nat.le_refl _) hbw)
    have RF0 := Lib.hid (HF1'.out.keep (Nat.le_refl _) hbw)
    have RL0 := Lib.hid (show Row wc A5 (texts (lessL L k)) from hrow)
    have BW0 := Lib.hid (bthen HBw.out hbw)
    have t0 := cell_on hbw t0
    have t1 := cell_on hbw t1
    have d0 := cell_on hbw d0
    have d1 := cell_on hbw d1
    have d2 := cell_on hbw d2
    have HKL := Lib.hid (show k < L.length by have := HN.out; omega)
    have HLR := Lib.hid (less_right (k := k) HRR.out HKL.out (by have := HN.out; omega))
    have HLS := Lib.hid (less_subset (k := k) HRR.out)
    have HLN := Lib.hid (less_not (L := L) (k := k) HKL.out)
    have HLL := Lib.hid (show ∀ s ∈ lessL L k, s.size ≤ 9223372036854775807 from fun s hs => HL.out s ((less_sub L k).subset hs))
    have HN5 := Lib.hid hn5
    have AL4 := Lib.hid al4
    have hszw : w1.heap.size ≤ wc.heap.size := hbw.size
    clear hn1 hrow hn5 hbw al3 al4 sl1 sl2 hc0 hc00
    go_wp2_with fail
    refine (right_any A5 B n1 c5 m d (lessL L k) M _ RL0.out RB0.out HN1.out HM.out hc5 hmd HN5.out Hb.out HLL.out HLM.out (by omega) (by omega) true ⟨fun _ => HLR.out, fun _ => rfl⟩).mono ?_
    rintro e w2 ⟨rfl, hb⟩
    have t0 := cell_on hb t0
    have t1 := cell_on hb t1
    have d0 := cell_on hb d0
    have d1 := cell_on hb d1
    have d2 := cell_on hb d2
    have al1 := cell_on hb al1
    have al2 := cell_on hb al2
    have RA1 := Lib.hid (RA0.out.keep (Nat.le_refl _) hb)
    have RL1 := Lib.hid (RL0.out.keep (Nat.le_refl _) hb)
    have RB1 := Lib.hid (RB0.out.keep (Nat.le_refl _) hb)
    have RE1 := Lib.hid (RE0.out.keep (Nat.le_refl _) hb)
    have RF1 := Lib.hid (RF0.out.keep (Nat.le_refl _) hb)
    have BW1 := Lib.hid (bthen BW0.out hb)
    have hsz2 := hb.size
    clear hb
    go_wp2_with fail
    refine (subset_any A5 (some ⟨b, off, none⟩) n1 c5 n c (lessL L k) L _ RL1.out RA1.out HN1.out HN.out hc5 hnc HLL.out (by omega) (by omega) true ⟨fun _ => HLS.out, fun _ => rfl⟩).mono ?_
    rintro e w3 ⟨rfl, hb⟩
    have t0 := cell_on hb t0
    have t1 := cell_on hb t1
    have d0 := cell_on hb d0
    have d1 := cell_on hb d1
    have d2 := cell_on hb d2
    have al1 := cell_on hb al1
    have al2 := cell_on hb al2
    have RA2 := Lib.hid (RA1.out.keep (Nat.le_refl _) hb)
    have RL2 := Lib.hid (RL1.out.keep (Nat.le_refl _) hb)
    have RB2 := Lib.hid (RB1.out.keep (Nat.le_refl _) hb)
    have RE2 := Lib.hid (RE1.out.keep (Nat.le_refl _) hb)
    have RF2 := Lib.hid (RF1.out.keep (Nat.le_refl _) hb)
    have BW2 := Lib.hid (bthen BW1.out hb)
    have hsz3 := hb.size
    clear hb
    go_wp2_with fail
    refine (subset_any (some ⟨b, off, none⟩) A5 n c n1 c5 L (lessL L k) _ RA2.out RL2.out HN.out HN1.out hnc hc5 HL.out (by omega) (by omega) false ⟨fun h => (by cases h), fun h => absurd h HLN.out⟩).mono ?_
    rintro e w4 ⟨rfl, hb⟩
    have t0 := cell_on hb t0
    have t1 := cell_on hb t1
    have d0 := cell_on hb d0
    have d1 := cell_on hb d1
    have d2 := cell_on hb d2
    have al1 := cell_on hb al1
    have al2 := cell_on hb al2
    have RA3 := Lib.hid (RA2.out.keep (Nat.le_refl _) hb)
    have RL3 := Lib.hid (RL2.out.keep (Nat.le_refl _) hb)
    have RB3 := Lib.hid (RB2.out.keep (Nat.le_refl _) hb)
    have RE3 := Lib.hid (RE2.out.keep (Nat.le_refl _) hb)
    have RF3 := Lib.hid (RF2.out.keep (Nat.le_refl _) hb)
    have BW3 := Lib.hid (bthen BW2.out hb)
    have hsz4 := hb.size
    clear hb
    by_cases hpn : p = n1
    case neg =>
      have hq1 : ((p : Int) == (n1 : Int)) = false := by rw [beq_eq_false_iff_ne]; omega
      have hq2 : ((p : Int) != (n1 : Int)) = true := by rw [bne_iff_ne]; omega
      have HCV := Lib.hid (show CheckIs (lessL L k) M D X t 101 from .inl ⟨by have h1 := HP.out; have h2 := HN1.out; omega, rfl⟩)
      clear hpn
      go_wp2_with fail
      refine (alive_any _).mono ?_
      rintro e w5 ⟨rfl, hb⟩
      have t0 := cell_on hb t0
      have t1 := cell_on hb t1
      have d0 := cell_on hb d0
      have d1 := cell_on hb d1
      have d2 := cell_on hb d2
      have al1 := cell_on hb al1
      have al2 := cell_on hb al2
      have RA4 := Lib.hid (RA3.out.keep (Nat.le_refl _) hb)
      have RL4 := Lib.hid (RL3.out.keep (Nat.le_refl _) hb)
      have RB4 := Lib.hid (RB3.out.keep (Nat.le_refl _) hb)
      have RE4 := Lib.hid (RE3.out.keep (Nat.le_refl _) hb)
      have RF4 := Lib.hid (RF3.out.keep (Nat.le_refl _) hb)
      have BW4 := Lib.hid (bthen BW3.out hb)
      clear hb
      go_wp2_with fail
      refine (check_any A5 B E F n1 c5 m d p q x y t (lessL L k) M D X _ (RE4.out.keep (Nat.le_refl _) (by first | exact Below.refl _ _ | exact bpush (Below.refl _ _) _)) (RF4.out.keep (Nat.le_refl _) (by first | exact Below.refl _ _ | exact bpush (Below.refl _ _) _)) HN1.out HM.out HP.out HX.out HD.out (by omega) (by omega) 101 HCV.out).mono ?_
      rintro e w6 ⟨rfl, hb⟩
      go_wp2_with fail
      go_ret
      exact ⟨rfl, bthen BW4.out hb⟩
    case pos =>
      subst hpn
      obtain ⟨be, oe, rfl⟩ := row_some RE3.out (by have := HP.out; omega)
      obtain ⟨v, hv⟩ := check_ex (lessL L k) M D X t
      have HV := Lib.hid hv
      have HV2 := Lib.hid (more_check HKL.out (by have h1 := HP.out; have h2 := HN.out; have h3 := HNN.out; omega) hv)
      have HML := Lib.hid (more_len D (k := k) (by have := HP.out; omega))
      have HMD := Lib.hid (show ∀ s ∈ moreL D k, s.size ≤ 9223372036854775807 from (more_mem (P := fun s => s.size ≤ 9223372036854775807) (by decide)).2 HD.out)
      obtain ⟨oo, hoo⟩ : ∃ o, o = if q = k then oe else oe + k := ⟨_, rfl⟩
      have HCE := Lib.hid (row_cut (c := q) (k := k) RE3.out HP.out hpq hkn1 oo hoo)
      have sl3 := slice_hi (some ⟨be, oe, none⟩) p q k (by omega) (by omega)
      have sl4 := slice_lo be oe p q k oo hoo hkn1
      have hkq : (k : Int) ≤ (q : Int) := by omega
      have hkp : (k : Int) ≤ (p : Int) := by omega
      have hlt4 : w.heap.size + 1 < w4.heap.size := by omega
      clear hv hoo
      have HO1 := Lib.hid (show World.ownsRow ((w4.alloc (.cells #[.int .i64 t, .slice (some ⟨be, oe, none⟩) p q, .slice F x y] 27)).alloc (.cells #[] 9)) w4.heap.size 9 1 (.slice (some ⟨w4.heap.size + 1, 0, none⟩) 0 0) 0 [] by have h := own_empty (w := w4.alloc (.cells #[.int .i64 t, .slice (some ⟨be, oe, none⟩) p q, .slice F x y] 27)) (B := w4.heap.size) (t := 9) (size := 1) (by simp); simpa using h)
      have AL := Lib.hid (show Al3 ((w4.alloc (.cells #[.int .i64 t, .slice (some ⟨be, oe, none⟩) p q, .slice F x y] 27)).alloc (.cells #[] 9)) w4.heap.size w4.heap.size (.slice (some ⟨w4.heap.size + 1, 0, none⟩) 0 0) (.int .i64 t) (.slice (some ⟨be, oe, none⟩) p q) (.slice F x y) by have h := ((Al3.mk' (w := w4) (B := w4.heap.size) (v := .slice none 0 0) (x := .int .i64 t) (y := .slice (some ⟨be, oe, none⟩) p q) (z := .slice F x y) (t := 27) (Nat.le_refl _) (by simp [Value.ownBlock])).new (.cells #[] 9) 0 0); simpa using h)
      have hb1 : Below w4.heap.size w4 ((w4.alloc (.cells #[.int .i64 t, .slice (some ⟨be, oe, none⟩) p q, .slice F x y] 27)).alloc (.cells #[] 9)) := bpush (bpush (Below.refl _ _) _) _
      have HBQ := Lib.hid hb1
      clear hb1
      have dq := cell_on HBQ.out d1
      go_wp2_with (at_builtin; refine wpList_append_texts rfl _ _ rfl w4.heap.size (.slice (some ⟨w4.heap.size + 1, 0, none⟩) 0 0) 0 [] rfl (some ⟨be, oe, none⟩) k q (D.take k) rfl HO1.out ((RE3.out.front k).keep (Nat.le_refl _) HBQ.out) ?c1 ?c2 (fun h => by cases h) ?c3 ?c4 ?_)
      case c1 => rw [List.length_take]; have := HP.out; omega
      case c2 => omega
      case c3 => omega
      case c4 => first | omega | (simp; done) | (simp; omega)
      intro v1 w5 ho1 hg1 hd1
      have AL5 := Lib.hid (AL.out.row hg1 (by simpa using hd1))
      have hb5 : Below w4.heap.size w4 w5 := HBQ.out.trans (grown_below HO1.out hg1 (by first | omega | (simp; done) | (simp; omega)))
      have HB5 := Lib.hid hb5
      have HO5 := Lib.hid ho1
      have hz5 : w4.heap.size ≤ w5.heap.size := hb5.size
      have d1' := cell_on hb5 d1
      clear ho1 hg1 hd1 hb5 HO1 AL
      have HRE := Lib.hid (show Row (w5.alloc (.cells #[.string ⟨#[]⟩] 9)) (some ⟨w5.heap.size, 0, none⟩) (texts [⟨#[]⟩]) from .inr ⟨_, _, rfl, fun j u hu => by
        match j, hu with
        | 0, hu => simp [texts] at hu; subst hu; exact cell_made (by simp) rfl⟩)
      go_wp2_with (at_builtin; refine wpList_append_texts rfl _ _ rfl w4.heap.size v1 k (texts (D.take k)) rfl (some ⟨w5.heap.size, 0, none⟩) 1 1 [⟨#[]⟩] rfl (HO5.out.alloc _) HRE.out rfl (Nat.le_refl _) (fun h => by cases h) ?d1 ?d2 ?_)
      case d1 => omega
      case d2 => first | omega | (simp; done) | (simp; omega)
      intro v2 w6 ho2 hg2 hd2
      have AL6 := Lib.hid ((AL5.out.push (.cells #[.string ⟨#[]⟩] 9)).row hg2 (by simpa using hd2))
      have hb6 : Below w4.heap.size w4 w6 := (HB5.out.alloc HB5.out.size _).trans (grown_below (HO5.out.alloc _) hg2 (by simp; omega))
      have HB6 := Lib.hid hb6
      have HO6 := Lib.hid ho2
      clear ho2 hg2 hd2 hb6 d1'
      obtain ⟨A7, c7, rfl, _, _, _⟩ := own_slice HO6.out
      obtain ⟨a0, a1, a2, a3, a4, a5⟩ := AL6.out
      have hz6 : w4.heap.size < w6.heap.size := lt_of_cell a1
      go_wp2_with fail
      have AL7 := Lib.hid (AL6.out.set (.slice A7 (k + 1) c7))
      have HO7 := Lib.hid (own_set (o := 1) (u := (.slice A7 (k + 1) c7)) HO6.out a4)
      have hb7 := HB6.out.setCell (p := ⟨w4.heap.size, 1, none⟩) (Nat.le_refl _) (.slice A7 (k + 1) c7)
      have HB7 := Lib.hid hb7
      clear a0 a1 a2 a3 a4 a5
      obtain ⟨w7, hw7⟩ : ∃ w7, w7 = w6.setCell ⟨w4.heap.size, 1, none⟩ (.slice A7 (k + 1) c7) := ⟨_, rfl⟩
      rw [← hw7] at AL7 HO7 hb7 HB7 ⊢
      clear hw7
      obtain ⟨a0, a1, a2, a3, a4, a5⟩ := AL7.out
      refine wp_region_held_drew (S := fun w' => Below w4.heap.size w4 w') (by kernel_rfl) (below_drewN hb7 1) ?_
      intro hHeld
      refine take_want (i := 0) (v := ?v0k16) rfl (by kernel_rfl) (by kernel_rfl) (by kernel_rfl) (fun _ _ _ h => h) (by rfl) ?y0k16 (by assumption) ?r0k16
      case y0k16 => (intro w hSw; go_simp; all_goals with_reducible rfl)
      (try simp only [Act.put, List.setIfInBounds_toArray, List.set_cons_zero, List.set_cons_succ])
      refine take_want (i := 2) (v := ?v2k17) rfl (by kernel_rfl) (by kernel_rfl) (by kernel_rfl) (fun _ _ _ h => h) (by rfl) ?y2k17 (by assumption) ?r2k17
      case y2k17 => (intro w hSw; go_simp; all_goals with_reducible rfl)
      (try simp only [Act.put, List.setIfInBounds_toArray, List.set_cons_zero, List.set_cons_succ])
      refine take_want (i := 3) (v := ?v3k18) rfl (by kernel_rfl) (by kernel_rfl) (by kernel_rfl) (fun _ _ _ h => h) (by rfl) ?y3k18 (by assumption) ?r3k18
      case y3k18 => (intro w hSw; have q1 := cell_on hSw d1; go_simp; all_goals with_reducible rfl)
      (try simp only [Act.put, List.setIfInBounds_toArray, List.set_cons_zero, List.set_cons_succ])
      refine take_want (i := 4) (v := ?v4k19) rfl (by kernel_rfl) (by kernel_rfl) (by kernel_rfl) (fun _ _ _ h => h) (by rfl) ?y4k19 (by assumption) ?r4k19
      case y4k19 => (intro w hSw; go_simp; all_goals with_reducible rfl)
      (try simp only [Act.put, List.setIfInBounds_toArray, List.set_cons_zero, List.set_cons_succ])
      refine take_want (i := 5) (v := ?v5k20) rfl (by kernel_rfl) (by kernel_rfl) (by kernel_rfl) (fun _ _ _ h => h) (by rfl) ?y5k20 (by assumption) ?r5k20
      case y5k20 => (intro w hSw; go_simp; all_goals first | exact sl4 _ | with_reducible rfl)
      (try simp only [Act.put, List.setIfInBounds_toArray, List.set_cons_zero, List.set_cons_succ])
      refine wpAnyH_ready (rs := [1]) (by kernel_rfl) (by simp) ?_
      refine AllReadyH.cons rfl (fun K hK => ?_) AllReadyH.nil
      go_simp
      refine hK.out _ _ hHeld (fun hHeld => ?_)
      clear hK K
      (try simp only [Act.put, List.setIfInBounds_toArray, List.set_cons_zero, List.set_cons_succ])
      refine wpAnyH_ready (rs := [6]) (by kernel_rfl) (by simp) ?_
      refine AllReadyH.cons rfl (fun K hK => ?_) AllReadyH.nil
      refine step_append_texts rfl _ _ rfl w4.heap.size (.slice A7 (k + 1) c7) _ _ rfl (some ⟨be, oo, none⟩) (p - k) (q - k) (D.drop k) rfl (own_dr HO7.out 1) (HCE.out.keep (Nat.le_refl _) hHeld) (by rw [List.length_drop]; have := HP.out; omega) (by omega) (fun h => by cases h) (by omega) hHeld.size ?_
      intro v3 w8 ho3 hg3 hd3
      refine hK.out _ _ (hHeld.trans (grown_below (own_dr HO7.out 1) hg3 hHeld.size)) (fun hHeld => ?_)
      clear hK K
      (try simp only [Act.put, List.setIfInBounds_toArray, List.set_cons_zero, List.set_cons_succ])
      have AL8 := Lib.hid (Al3.row (w := w7.drewN 1) AL7.out hg3 hd3)
      rw [show k + 1 + (p - k) = p + 1 by omega] at ho3
      have HO8 := Lib.hid (show w8.ownsRow w4.heap.size 9 1 v3 (p + 1) (texts (moreL D k)) by simpa [texts, moreL] using ho3)
      clear ho3 hg3 hd3 a0 a1 a2 a3 a4 a5
      obtain ⟨A9, c9, rfl, hr9, hc9, hn9⟩ := own_slice HO8.out
      obtain ⟨a0, a1, a2, a3, a4, a5⟩ := AL8.out
      refine take_want (i := 7) (v := ?v7k21) rfl (by kernel_rfl) (by kernel_rfl) (by kernel_rfl) (fun _ _ _ h => h) (by rfl) ?y7k21 (by assumption) ?r7k21
      case y7k21 => (intro w hSw; go_simp; all_goals with_reducible rfl)
      (try simp only [Act.put, List.setIfInBounds_toArray, List.set_cons_zero, List.set_cons_succ])
      refine wpAnyH_ready (rs := [8]) (by kernel_rfl) (by simp) ?_
      refine AllReadyH.cons rfl (fun K hK => ?_) AllReadyH.nil
      go_simp
      have hb9 := hHeld.setCell (p := ⟨w4.heap.size, 1, none⟩) (Nat.le_refl _) (.slice A9 (p + 1) c9)
      refine hK.out _ _ hb9 (fun hHeld2 => ?_)
      clear hK K
      (try simp only [Act.put, List.setIfInBounds_toArray, List.set_cons_zero, List.set_cons_succ])
      refine wpAnyH_done (by kernel_rfl) ?_ _
      have AL9 := Lib.hid (AL8.out.set (.slice A9 (p + 1) c9))
      have HO9 := Lib.hid (own_set (o := 1) (u := .slice A9 (p + 1) c9) HO8.out a4)
      clear a0 a1 a2 a3 a4 a5
      obtain ⟨w9, hw9⟩ : ∃ w9, w9 = w8.setCell ⟨w4.heap.size, 1, none⟩ (.slice A9 (p + 1) c9) := ⟨_, rfl⟩
      rw [← hw9] at AL9 HO9 hb9 ⊢
      clear hw9 hHeld2 hHeld
      obtain ⟨A9', c9', e9, hr9, hc9, hn9⟩ := own_slice HO9.out; cases e9
      have R9 := Lib.hid hr9
      obtain ⟨a0, a1, a2, a3, a4, a5⟩ := AL9.out
      have BW9 := Lib.hid (bthen BW3.out hb9)
      have t0 := cell_on hb9 t0
      have t1 := cell_on hb9 t1
      have d0 := cell_on hb9 d0
      have d1 := cell_on hb9 d1
      have d2 := cell_on hb9 d2
      have al1 := cell_on hb9 al1
      have al2 := cell_on hb9 al2
      have RE9 := Lib.hid (RE3.out.keep (Nat.le_refl _) hb9)
      have RF9 := Lib.hid (RF3.out.keep (Nat.le_refl _) hb9)
      have H1 := Lib.hid (show p + 1 = (moreL D k).length by rw [HML.out]; have := HP.out; omega)
      clear hr9 hb9 hb7 sl3 sl4
      go_wp2_with fail
      refine wp_region_held_drew (S := fun w' => Below w9.heap.size w9 w') (by kernel_rfl) (below_drewN (Below.refl _ _) 1) ?_
      intro hHeld
      refine wpAnyH_ready (rs := [0]) (by kernel_rfl) (by simp) ?_
      refine AllReadyH.cons rfl (fun K hK => ?_) AllReadyH.nil
      go_simp
      (go_at_call 9; refine (alive_any _).mono ?_; rintro e w10 ⟨rfl, hb⟩)
      refine hK.out _ _ (bthen hHeld hb) (fun hHeld => ?_)
      clear hK K hb
      (try simp only [Act.put, List.setIfInBounds_toArray, List.set_cons_zero, List.set_cons_succ])
      refine take_want (i := 1) (v := ?v1k22) rfl (by kernel_rfl) (by kernel_rfl) (by kernel_rfl) (fun _ _ _ h => h) (by rfl) ?y1k22 (by assumption) ?r1k22
      case y1k22 => (intro w hSw; go_simp; all_goals with_reducible rfl)
      (try simp only [Act.put, List.setIfInBounds_toArray, List.set_cons_zero, List.set_cons_succ])
      refine take_want (i := 2) (v := ?v2k23) rfl (by kernel_rfl) (by kernel_rfl) (by kernel_rfl) (fun _ _ _ h => h) (by rfl) ?y2k23 (by assumption) ?r2k23
      case y2k23 => (intro w hSw; have q0 := cell_on hSw al1; have q1 := cell_on hSw al2; go_simp; all_goals with_reducible rfl)
      (try simp only [Act.put, List.setIfInBounds_toArray, List.set_cons_zero, List.set_cons_succ])
      refine take_want (i := 3) (v := ?v3k24) rfl (by kernel_rfl) (by kernel_rfl) (by kernel_rfl) (fun _ _ _ h => h) (by rfl) ?y3k24 (by assumption) ?r3k24
      case y3k24 => (intro w hSw; have q0 := cell_on hSw d0; have q1 := cell_on hSw d1; have q2 := cell_on hSw d2; go_simp; all_goals with_reducible rfl)
      (try simp only [Act.put, List.setIfInBounds_toArray, List.set_cons_zero, List.set_cons_succ])
      refine take_want (i := 5) (v := ?v5k25) rfl (by kernel_rfl) (by kernel_rfl) (by kernel_rfl) (fun _ _ _ h => h) (by rfl) ?y5k25 (by assumption) ?r5k25
      case y5k25 => (intro w hSw; have q0 := cell_on hSw t0; have q1 := cell_on hSw t1; go_simp; all_goals with_reducible rfl)
      (try simp only [Act.put, List.setIfInBounds_toArray, List.set_cons_zero, List.set_cons_succ])
      refine take_want (i := 6) (v := ?v6k26) rfl (by kernel_rfl) (by kernel_rfl) (by kernel_rfl) (fun _ _ _ h => h) (by rfl) ?y6k26 (by assumption) ?r6k26
      case y6k26 => (intro w hSw; have q0 := cell_on hSw a1; have q1 := cell_on hSw a2; have q2 := cell_on hSw a3; go_simp; all_goals with_reducible rfl)
      (try simp only [Act.put, List.setIfInBounds_toArray, List.set_cons_zero, List.set_cons_succ])
      refine wpAnyH_ready (rs := [4]) (by kernel_rfl) (by simp) ?_
      refine AllReadyH.cons rfl (fun K hK => ?_) AllReadyH.nil
      go_simp
      (go_at_call 10; refine (check_any A5 B _ F p c5 m d p q x y t (lessL L k) M D X _ (RE9.out.keep (Nat.le_refl _) hHeld) (RF9.out.keep (Nat.le_refl _) hHeld) HN1.out HM.out HP.out HX.out HD.out (by omega) (by omega) v HV.out).mono ?_; rintro e w11 ⟨rfl, hb⟩)
      refine hK.out _ _ (bthen hHeld hb) (fun hHeld => ?_)
      clear hK K hb
      (try simp only [Act.put, List.setIfInBounds_toArray, List.set_cons_zero, List.set_cons_succ])
      refine wpAnyH_ready (rs := [7]) (by kernel_rfl) (by simp) ?_
      refine AllReadyH.cons rfl (fun K hK => ?_) AllReadyH.nil
      go_simp
      (go_at_call 10; refine (check_any _ B A9 F n c m d (p + 1) c9 x y t L M (moreL D k) X _ (R9.out.keep (Nat.le_refl _) hHeld) (RF9.out.keep (Nat.le_refl _) hHeld) HN.out HM.out H1.out HX.out HMD.out (by omega) (by omega) v HV2.out).mono ?_; rintro e w12 ⟨rfl, hb⟩)
      refine hK.out _ _ (bthen hHeld hb) (fun hHeld => ?_)
      clear hK K hb
      (try simp only [Act.put, List.setIfInBounds_toArray, List.set_cons_zero, List.set_cons_succ])
      refine take_want (i := 8) (v := .bool true) rfl (by kernel_rfl) (by kernel_rfl) (by kernel_rfl) (fun _ _ _ h => h) (by rfl) ?y8k27 (by assumption) ?r8k27
      case y8k27 => (intro w hSw; go_simp; all_goals first | rfl | simp)
      (try simp only [Act.put, List.setIfInBounds_toArray, List.set_cons_zero, List.set_cons_succ])
      refine take_want (i := 9) (v := .bool true) rfl (by kernel_rfl) (by kernel_rfl) (by kernel_rfl) (fun _ _ _ h => h) (by rfl) ?y9k28 (by assumption) ?r9k28
      case y9k28 => (intro w hSw; go_simp; all_goals first | rfl | simp)
      (try simp only [Act.put, List.setIfInBounds_toArray, List.set_cons_zero, List.set_cons_succ])
      refine take_want (i := 10) (v := ?v10k29) rfl (by kernel_rfl) (by kernel_rfl) (by kernel_rfl) (fun _ _ _ h => h) (by rfl) ?y10k29 (by assumption) ?r10k29
      case y10k29 => (intro w hSw; go_simp; all_goals with_reducible rfl)
      (try simp only [Act.put, List.setIfInBounds_toArray, List.set_cons_zero, List.set_cons_succ])
      refine wpAnyH_done (by kernel_rfl) ?_ _
      have hfin := bthen BW9.out hHeld
      go_wp2_with fail
      go_ret
      exact ⟨rfl, hfin⟩

end Go.Proofs.Ytbecgknahhhfiaa
