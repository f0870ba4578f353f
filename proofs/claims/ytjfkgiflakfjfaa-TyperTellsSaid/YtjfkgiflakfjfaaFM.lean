/- filterShaped (37): its closure (58) that calls itself through a variable. -/
import Derived.Test.YtjfkgiflakfjfaaFL
namespace Go.Proofs.Ytjfkgiflakfjfaa
open Go.RowKit Go.Maps Go.Lib
set_option linter.unusedSimpArgs false
set_option linter.unusedVariables false
def selfF (P : Nat) : Value := .func (.func 58) #[] #[.pointer (some ⟨P, 0, none⟩)]
set_option maxRecDepth 100000 in
set_option maxHeartbeats 4000000 in
theorem neg60 (x : FT) (d P D : Nat) (W : World) (r : Bool) (hd : d ≤ 1000) (hP : W.cell? ⟨P, 0, none⟩ = some (selfF P)) (hD : W.cell? ⟨D, 0, none⟩ = some (.int .i64 d))
    (h : ∀ W1, Below W.heap.size W W1 → Calls Try.prog 58 #[.agg #[.int .i64 x.op, .string x.dim, .string x.val, .slice x.A x.n x.c], .int .i64 ((d + 1 : Nat) : Int), .pointer (some ⟨P, 0, none⟩)] W1 fun e W' => e = .returned (.bool r) ∧ Below W1.heap.size W1 W') :
    Calls Try.prog 60 #[.agg #[.int .i64 x.op, .string x.dim, .string x.val, .slice x.A x.n x.c], .pointer (some ⟨P, 0, none⟩), .pointer (some ⟨D, 0, none⟩)] W fun e W' => e = .returned (.bool (!r)) ∧ Below W.heap.size W W' := by
  obtain ⟨w1, hw1⟩ : ∃ w1, w1 = W.alloc (.cells #[.int .i64 x.op, .string x.dim, .string x.val, .slice x.A x.n x.c] 29) := ⟨_, rfl⟩
  have hb1 : Below W.heap.size W w1 := by rw [hw1]; exact bpush (Below.refl _ _) _
  have HB1 := Lib.hid hb1
  have hK : Blk w1 W.heap.size 29 #[.int .i64 x.op, .string x.dim, .string x.val, .slice x.A x.n x.c] := by rw [hw1]; exact Blk.new _ _ _
  have c0 : w1.cell? ⟨W.heap.size, 0, none⟩ = some (.int .i64 x.op) := by rw [hK.cell 0]; rfl
  have c1 : w1.cell? ⟨W.heap.size, 1, none⟩ = some (.string x.dim) := by rw [hK.cell 1]; rfl
  have c2 : w1.cell? ⟨W.heap.size, 2, none⟩ = some (.string x.val) := by rw [hK.cell 2]; rfl
  have c3 : w1.cell? ⟨W.heap.size, 3, none⟩ = some (.slice x.A x.n x.c) := by rw [hK.cell 3]; rfl
  have cP : w1.cell? ⟨P, 0, none⟩ = some (selfF P) := cell_on hb1 hP
  unfold selfF at cP
  have cD : w1.cell? ⟨D, 0, none⟩ = some (.int .i64 d) := cell_on hb1 hD
  have hC := h w1 hb1
  have e1 : ((d + 1 : Nat) : Int) = (d : Int) + 1 := by omega
  rw [e1] at hC
  have HC := Lib.hid hC
  have HW1 := Lib.hid hw1
  clear hw1 hb1 hK hP hD h hC e1
  go_enter Try.func60, Try.ntmps60
  go_upto_region 1 with fail
  rw [← HW1.out]
  cases r with
  | true =>
    go_wp2_with (go_at_call 58; refine HC.out.mono ?_; rintro e w2 ⟨rfl, hb⟩; have HB2 := Lib.hid hb; clear hb)
    go_ret
    exact ⟨rfl, bthen HB1.out HB2.out⟩
  | false =>
    go_wp2_with (go_at_call 58; refine HC.out.mono ?_; rintro e w2 ⟨rfl, hb⟩; have HB2 := Lib.hid hb; clear hb)
    go_ret
    exact ⟨rfl, bthen HB1.out HB2.out⟩
set_option maxRecDepth 100000 in
set_option maxHeartbeats 8000000 in
theorem shp_any : ∀ (f : FT) (w : World) (d P : Nat), FIn w f → d ≤ 31 → w.cell? ⟨P, 0, none⟩ = some (selfF P) → Calls Try.prog 58 #[.agg #[.int .i64 f.op, .string f.dim, .string f.val, .slice f.A f.n f.c], .int .i64 d, .pointer (some ⟨P, 0, none⟩)] w fun e w' => e = .returned (.bool (f.shp d)) ∧ Below w.heap.size w w' := by
  intro f
  induction f using FT.ind with
  | h f ih =>
  intro w d P hf hd hP
  obtain ⟨w1, hw1⟩ : ∃ w1, w1 = (w.alloc (.cells #[.int .i64 f.op, .string f.dim, .string f.val, .slice f.A f.n f.c] 29)).alloc (.cells #[.int .i64 d] 3) := ⟨_, rfl⟩
  have hb1 : Below w.heap.size w w1 := by rw [hw1]; exact bpush (bpush (Below.refl _ _) _) _
  have HB1 := Lib.hid hb1
  have hK : ∀ i u, (#[.int .i64 f.op, .string f.dim, .string f.val, .slice f.A f.n f.c] : Array Value)[i]? = some u → w1.cell? ⟨w.heap.size, i, none⟩ = some u := fun i u hu => by
    rw [hw1]
    exact cell_on (W := w.alloc (.cells #[.int .i64 f.op, .string f.dim, .string f.val, .slice f.A f.n f.c] 29)) (bpush (Below.refl _ _) _) (cell_made rfl hu)
  have cD : w1.cell? ⟨w.heap.size + 1, 0, none⟩ = some (.int .i64 d) := by rw [hw1]; exact cell_made (by simp) rfl
  have cP : w1.cell? ⟨P, 0, none⟩ = some (selfF P) := cell_on hb1 hP
  have HKC := Lib.hid hK
  have HCD := Lib.hid cD
  have HCP := Lib.hid cP
  have HF := Lib.hid hf
  have HIH := Lib.hid ih
  have HW1 := Lib.hid hw1
  have hE := f.shp_eq d
  obtain ⟨r, hr⟩ : ∃ r, r = f.shp d := ⟨_, rfl⟩
  rw [← hr] at hE ⊢
  have HE := Lib.hid hE
  have hn2 := hf.top.max
  obtain ⟨A, hA⟩ : ∃ A, A = f.A := ⟨_, rfl⟩
  obtain ⟨n, hn⟩ : ∃ n, n = f.n := ⟨_, rfl⟩
  obtain ⟨c, hc⟩ : ∃ c, c = f.c := ⟨_, rfl⟩
  have c0 : w1.cell? ⟨w.heap.size, 0, none⟩ = some (.int .i64 f.op) := hK 0 _ rfl
  have c1 : w1.cell? ⟨w.heap.size, 1, none⟩ = some (.string f.dim) := hK 1 _ rfl
  have c2 : w1.cell? ⟨w.heap.size, 2, none⟩ = some (.string f.val) := hK 2 _ rfl
  have c3 : w1.cell? ⟨w.heap.size, 3, none⟩ = some (.slice f.A f.n f.c) := hK 3 _ rfl
  have HA := Lib.hid hA
  have HN := Lib.hid hn
  have HC := Lib.hid hc
  have HC3 := Lib.hid (fun W (hb : Below w1.heap.size w1 W) => show W.cell? ⟨w.heap.size, 3, none⟩ = some (.slice A n c) from by
    rw [hA, hn, hc]; exact cell_on hb c3)
  clear hw1 hf hE ih hK hP hr hb1 hA hn hc cP
  go_enter Try.func58, Try.ntmps58
  go_upto_region 1 with fail
  rw [← HW1.out]
  by_cases h30 : d ≤ 30
  · have h30z : ¬ (30 : Int) < (d : Int) := by omega
    obtain ⟨tp, htp⟩ : ∃ tp, tp = decide (d = 1) := ⟨_, rfl⟩
    have HTP := Lib.hid htp
    obtain ⟨o, ho⟩ : ∃ o, o = f.opTop tp := ⟨_, rfl⟩
    have HOP := Lib.hid (fun W => opshaped_any f tp W hn2)
    rw [← ho] at HOP
    have HO := Lib.hid ho
    have h1b : ((d : Int) == 1) = tp := by
      rw [htp, Bool.eq_iff_iff]; simp; omega
    clear htp ho
    cases o with
    | false =>
      have HR0 := Lib.hid (show r = false by rw [HE.out, decide_eq_true h30, ← HTP.out, ← HO.out]; simp)
      go_wp2_with (go_at_call 59; refine (HOP.out _).mono ?_; rintro e w2 ⟨rfl, hb⟩; have HB2 := Lib.hid hb; clear hb)
      go_ret
      exact ⟨by rw [HR0.out]; rfl, bthen HB1.out HB2.out⟩
    | true =>
      have HST := Lib.hid (show r = !(f.ks.any fun x => !x.shp (d + 1)) by
        rw [HE.out, decide_eq_true h30, ← HTP.out, ← HO.out]
        simp [List.all_eq_not_any_not, List.any_map, Function.comp_def])
      obtain ⟨av, hav⟩ : ∃ av, av = f.ks.any fun x => !x.shp (d + 1) := ⟨_, rfl⟩
      have HCF := Lib.hid (fun (W2 : World) (hb2 : Below w1.heap.size w1 W2) => hasF_any A n c 60 #[.pointer (some ⟨P, 0, none⟩), .pointer (some ⟨w.heap.size + 1, 0, none⟩)] (fun x => !x.shp (d + 1)) f.ks W2 (by rw [HA.out]; exact HF.out.top.row.keep (Nat.le_refl _) (bthen HB1.out hb2)) (by rw [HN.out]; exact HF.out.top.len) (by rw [HN.out]; exact hn2) (fun args w => rfl) (fun W hW x hx => neg60 x d P (w.heap.size + 1) W (x.shp (d + 1)) (by omega) (cell_on (bthen hb2 hW) HCP.out) (cell_on (bthen hb2 hW) HCD.out) (fun W1 hW1 => HIH.out x hx W1 (d + 1) P (FIn.keep x (HF.out.kid x hx) (Nat.le_refl _) (bthen (bthen (bthen HB1.out hb2) hW) hW1)) (by omega) (cell_on (bthen (bthen hb2 hW) hW1) HCP.out))))
      rw [← hav] at HCF HST
      clear hav
      cases av with
      | true =>
        have HR1 := Lib.hid (show r = false by rw [HST.out]; rfl)
        go_wp2_with (first
          | (go_at_call 59; refine (HOP.out _).mono ?_; rintro e w2 ⟨rfl, hb⟩; have HB2 := Lib.hid hb; have k3 := HC3.out _ hb; clear hb)
          | (go_at_call 61; refine (HCF.out _ HB2.out).mono ?_; rintro e w3 ⟨rfl, hb⟩; have HB3 := Lib.hid hb; clear hb))
        go_ret
        exact ⟨by rw [HR1.out]; rfl, bthen (bthen HB1.out HB2.out) HB3.out⟩
      | false =>
        have HR1 := Lib.hid (show r = true by rw [HST.out]; rfl)
        go_wp2_with (first
          | (go_at_call 59; refine (HOP.out _).mono ?_; rintro e w2 ⟨rfl, hb⟩; have HB2 := Lib.hid hb; have k3 := HC3.out _ hb; clear hb)
          | (go_at_call 61; refine (HCF.out _ HB2.out).mono ?_; rintro e w3 ⟨rfl, hb⟩; have HB3 := Lib.hid hb; clear hb))
        go_ret
        exact ⟨by rw [HR1.out]; rfl, bthen (bthen HB1.out HB2.out) HB3.out⟩
  · have h30z : (30 : Int) < (d : Int) := by omega
    have HR0 := Lib.hid (show r = false by rw [HE.out, decide_eq_false h30]; simp)
    go_wp2_with fail
    go_ret
    exact ⟨by rw [HR0.out]; rfl, HB1.out⟩
set_option maxRecDepth 100000 in
set_option maxHeartbeats 8000000 in
theorem fshaped_any (f : FT) (w : World) (hf : FIn w f) : Calls Try.prog 37 #[.agg #[.int .i64 f.op, .string f.dim, .string f.val, .slice f.A f.n f.c]] w fun e w' => e = .returned (.bool (f.shp 1)) ∧ Below w.heap.size w w' := by
  obtain ⟨w1, hw1⟩ : ∃ w1, w1 = (w.alloc (.cells #[.int .i64 f.op, .string f.dim, .string f.val, .slice f.A f.n f.c] 29)).alloc (.cells #[selfF (w.heap.size + 1)] 70) := ⟨_, rfl⟩
  have hb1 : Below w.heap.size w w1 := by rw [hw1]; exact bpush (bpush (Below.refl _ _) _) _
  have HB1 := Lib.hid hb1
  have hK : ∀ i u, (#[.int .i64 f.op, .string f.dim, .string f.val, .slice f.A f.n f.c] : Array Value)[i]? = some u → w1.cell? ⟨w.heap.size, i, none⟩ = some u := fun i u hu => by
    rw [hw1]
    exact cell_on (W := w.alloc (.cells #[.int .i64 f.op, .string f.dim, .string f.val, .slice f.A f.n f.c] 29)) (bpush (Below.refl _ _) _) (cell_made rfl hu)
  have cP : w1.cell? ⟨w.heap.size + 1, 0, none⟩ = some (selfF (w.heap.size + 1)) := by rw [hw1]; exact cell_made (by simp) rfl
  have HC := Lib.hid (shp_any f w1 1 (w.heap.size + 1) (FIn.keep f hf (Nat.le_refl _) hb1) (by omega) cP)
  have c0 : w1.cell? ⟨w.heap.size, 0, none⟩ = some (.int .i64 f.op) := hK 0 _ rfl
  have c1 : w1.cell? ⟨w.heap.size, 1, none⟩ = some (.string f.dim) := hK 1 _ rfl
  have c2 : w1.cell? ⟨w.heap.size, 2, none⟩ = some (.string f.val) := hK 2 _ rfl
  have c3 : w1.cell? ⟨w.heap.size, 3, none⟩ = some (.slice f.A f.n f.c) := hK 3 _ rfl
  unfold selfF at cP hw1
  have HW1 := Lib.hid hw1
  clear hw1 hK hb1 hf
  go_enter Try.func37, Try.ntmps37
  go_upto_region 3 with fail
  rw [← HW1.out]
  go_wp2_with (go_at_call 58; refine HC.out.mono ?_; rintro e w2 ⟨rfl, hb⟩; have HB2 := Lib.hid hb; clear hb)
  go_ret
  exact ⟨rfl, bthen HB1.out HB2.out⟩
end Go.Proofs.Ytjfkgiflakfjfaa
