/- The document's Copy. -/
import Derived.Test.YtaahomohhagcoaaZG
import Derived.Deep.RegionHeld3
namespace Go.Proofs.Ytaahomohhagcoaa
open Go.RowKit Go.Maps Go.Shelf Go.Lib
set_option linter.unusedSimpArgs false
set_option linter.unusedVariables false
theorem step_append_files {w : World} {o : Oper} {a : Act} {K : Act → World → Prop} {Q : Exit → Act → World → Prop} (s x : Operand)
    (ho : o.op = .call { callee := .builtin .append, args := #[s, x], argTypes := #[58, 58] })
    (base : Nat) (v : Value) (n : Nat) (xs : List Value) (hs : a.eval s = v) (A : Option Addr) (m c : Nat) (M : List FZ) (hx : a.eval x = .slice A m c) (hown : w.ownsRow base 66 3 v n xs)
    (hrow : Row w A (cellsF M)) (hm : m = M.length) (hmc : m ≤ c) (ha : A = none → c = 0) (h63 : (n + m) * 48 ≤ 140737488355328) (hbase : base ≤ w.heap.size)
    (h : ∀ v' w', w'.ownsRow base 66 3 v' (n + m) (xs ++ cellsF M) → w.grownBy w' v.ownBlock → K (a.put o.dst v') w') :
    o.wp Try.prog a w K Q := by
  obtain ⟨v', w', hr, h2, h3⟩ := run_append_files w o.type base v n xs hown A m c M hrow hm hmc ha h63 hbase
  unfold Oper.wp execOp
  simp only [ho, resolve, invoke, builtin, Sem.run_bind, Sem.run_pure, Result.andThen_ok, List.map_toArray, List.map_cons, List.map_nil, hs, hx, hr]
  exact h v' w' h2 h3
/-- A vault of its own. -/
def ROwnP (w : World) (P' : VZ) (R : RV) (e : Ending) (w' : World) : Prop :=
  ∃ a R', e = .returned (.pointer (some ⟨a, 0, none⟩)) ∧ RIs R' P' ∧ RRep w' a R' ∧ Below w.heap.size w w' ∧ w.heap.size ≤ a ∧ ∀ i, RRows R' i → RRows R i ∨ w.heap.size ≤ i
set_option maxRecDepth 100000 in
set_option maxHeartbeats 16000000 in
theorem rcopy_any (a : Nat) (R : RV) (P : VZ) (w : World) (h : RRep w a R) (hi : RIs R P) (hl : R.F.length ≤ 200) : Calls Try.prog 18 #[.pointer (some ⟨a, 0, none⟩)] w (ROwnP w P R) := by
  have HH := Lib.hid h
  have HI := Lib.hid hi
  obtain ⟨A, hA⟩ : ∃ A, A = R.A := ⟨_, rfl⟩
  obtain ⟨n, hn⟩ : ∃ n, n = R.n := ⟨_, rfl⟩
  obtain ⟨c, hc⟩ : ∃ c, c = R.c := ⟨_, rfl⟩
  have HR := Lib.hid (show Row w A (cellsF R.F) by rw [hA]; exact h.row)
  have HN := Lib.hid (show n = R.F.length by rw [hn]; exact h.len)
  have HNC := Lib.hid (show n ≤ c by rw [hn, hc]; exact h.cap)
  have HNIL := Lib.hid (show A = none → c = 0 by rw [hA, hc]; exact h.nil)
  have HE0 := Lib.hid (show (0 + n) * 48 ≤ 140737488355328 by have := HN.out; omega)
  have HCE := Lib.hid (fun W (hb : Below w.heap.size w W) => (show W.cell? ⟨a, 0, none⟩ = some (.int .i64 R.room) ∧ W.cell? ⟨a, 1, none⟩ = some (.int .i64 R.fuse) ∧ W.cell? ⟨a, 2, none⟩ = some (.slice A n c) from by
    have hk := (HH.out.below hb).blk
    exact ⟨by simpa using hk.cell 0, by simpa using hk.cell 1, by rw [hA, hn, hc]; simpa using hk.cell 2⟩))
  clear h hi hl hA hn hc
  go_enter Try.func18, Try.ntmps18
  go_upto_region 1 with fail
  refine wp_region_held_drew (S := fun w' => Below w.heap.size w w') (by kernel_rfl) (below_drewN (Below.refl _ _) 1) ?_
  intro hHeld
  refine take_want (i := 0) (v := ?v0k0) rfl (by kernel_rfl) (by kernel_rfl) (by kernel_rfl) (fun _ _ _ h => h) (by rfl) ?y0k0 (by assumption) ?r0k0
  case y0k0 => (intro w hSw; go_simp; all_goals with_reducible rfl)
  (try simp only [Act.put, List.setIfInBounds_toArray, List.set_cons_zero, List.set_cons_succ])
  refine take_want (i := 1) (v := ?v1k0) rfl (by kernel_rfl) (by kernel_rfl) (by kernel_rfl) (fun _ _ _ h => h) (by rfl) ?y1k0 (by assumption) ?r1k0
  case y1k0 => (intro w hSw; go_simp; all_goals with_reducible rfl)
  (try simp only [Act.put, List.setIfInBounds_toArray, List.set_cons_zero, List.set_cons_succ])
  refine take_want (i := 2) (v := ?v2k0) rfl (by kernel_rfl) (by kernel_rfl) (by kernel_rfl) (fun _ _ _ h => h) (by rfl) ?y2k0 (by assumption) ?r2k0
  case y2k0 => (intro w hSw; go_simp; all_goals with_reducible rfl)
  (try simp only [Act.put, List.setIfInBounds_toArray, List.set_cons_zero, List.set_cons_succ])
  refine take_want (i := 3) (v := ?v3k0) rfl (by kernel_rfl) (by kernel_rfl) (by kernel_rfl) (fun _ _ _ h => h) (by rfl) ?y3k0 (by assumption) ?r3k0
  case y3k0 => (intro w hSw; have q0 := (HCE.out w hSw).1; have q1 := (HCE.out w hSw).2.1; have q2 := (HCE.out w hSw).2.2; go_simp; all_goals with_reducible rfl)
  (try simp only [Act.put, List.setIfInBounds_toArray, List.set_cons_zero, List.set_cons_succ])
  refine take_want (i := 4) (v := ?v4k0) rfl (by kernel_rfl) (by kernel_rfl) (by kernel_rfl) (fun _ _ _ h => h) (by rfl) ?y4k0 (by assumption) ?r4k0
  case y4k0 => (intro w hSw; go_simp; all_goals with_reducible rfl)
  (try simp only [Act.put, List.setIfInBounds_toArray, List.set_cons_zero, List.set_cons_succ])
  refine take_want (i := 5) (v := ?v5k0) rfl (by kernel_rfl) (by kernel_rfl) (by kernel_rfl) (fun _ _ _ h => h) (by rfl) ?y5k0 (by assumption) ?r5k0
  case y5k0 => (intro w hSw; go_simp; all_goals with_reducible rfl)
  (try simp only [Act.put, List.setIfInBounds_toArray, List.set_cons_zero, List.set_cons_succ])
  refine take_want (i := 6) (v := ?v6k0) rfl (by kernel_rfl) (by kernel_rfl) (by kernel_rfl) (fun _ _ _ h => h) (by rfl) ?y6k0 (by assumption) ?r6k0
  case y6k0 => (intro w hSw; go_simp; all_goals with_reducible rfl)
  (try simp only [Act.put, List.setIfInBounds_toArray, List.set_cons_zero, List.set_cons_succ])
  refine take_want (i := 7) (v := ?v7k0) rfl (by kernel_rfl) (by kernel_rfl) (by kernel_rfl) (fun _ _ _ h => h) (by rfl) ?y7k0 (by assumption) ?r7k0
  case y7k0 => (intro w hSw; have q0 := (HCE.out w hSw).1; have q1 := (HCE.out w hSw).2.1; have q2 := (HCE.out w hSw).2.2; go_simp; all_goals with_reducible rfl)
  (try simp only [Act.put, List.setIfInBounds_toArray, List.set_cons_zero, List.set_cons_succ])
  refine take_want (i := 9) (v := ?v9k0) rfl (by kernel_rfl) (by kernel_rfl) (by kernel_rfl) (fun _ _ _ h => h) (by rfl) ?y9k0 (by assumption) ?r9k0
  case y9k0 => (intro w hSw; go_simp; all_goals with_reducible rfl)
  (try simp only [Act.put, List.setIfInBounds_toArray, List.set_cons_zero, List.set_cons_succ])
  refine take_want (i := 10) (v := ?v10k0) rfl (by kernel_rfl) (by kernel_rfl) (by kernel_rfl) (fun _ _ _ h => h) (by rfl) ?y10k0 (by assumption) ?r10k0
  case y10k0 => (intro w hSw; go_simp; all_goals with_reducible rfl)
  (try simp only [Act.put, List.setIfInBounds_toArray, List.set_cons_zero, List.set_cons_succ])
  refine take_want (i := 11) (v := ?v11k0) rfl (by kernel_rfl) (by kernel_rfl) (by kernel_rfl) (fun _ _ _ h => h) (by rfl) ?y11k0 (by assumption) ?r11k0
  case y11k0 => (intro w hSw; go_simp; all_goals with_reducible rfl)
  (try simp only [Act.put, List.setIfInBounds_toArray, List.set_cons_zero, List.set_cons_succ])
  refine take_want (i := 12) (v := ?v12k0) rfl (by kernel_rfl) (by kernel_rfl) (by kernel_rfl) (fun _ _ _ h => h) (by rfl) ?y12k0 (by assumption) ?r12k0
  case y12k0 => (intro w hSw; have q0 := (HCE.out w hSw).1; have q1 := (HCE.out w hSw).2.1; have q2 := (HCE.out w hSw).2.2; go_simp; all_goals with_reducible rfl)
  (try simp only [Act.put, List.setIfInBounds_toArray, List.set_cons_zero, List.set_cons_succ])
  refine wpAnyH_ready (rs := [8]) (by kernel_rfl) (by simp) ?_
  refine AllReadyH.cons rfl (fun K hK => ?_) AllReadyH.nil
  go_simp
  have hsp := hHeld.size
  refine hK.out _ _ (hHeld.alloc hHeld.size _) (fun hHeld => ?_)
  clear hK K
  (try simp only [Act.put, List.setIfInBounds_toArray, List.set_cons_zero, List.set_cons_succ])
  have HO1 := Lib.hid (own_empty (t := 66) (size := 3) hsp)
  refine wpAnyH_ready (rs := [13]) (by kernel_rfl) (by simp) ?_
  refine AllReadyH.cons rfl (fun K hK => ?_) AllReadyH.nil
  refine step_append_files _ _ rfl w.heap.size _ 0 [] (by first | rfl | (simp; done) | (simp; rfl)) A n c R.F rfl HO1.out (HR.out.keep (Nat.le_refl _) hHeld) HN.out HNC.out HNIL.out HE0.out hHeld.size ?_
  intro v1 w2 ho1 hg1
  rw [Nat.zero_add, List.nil_append] at ho1
  refine hK.out _ _ (hHeld.trans (grown_below4 HO1.out hg1 hHeld.size)) (fun hHeld => ?_)
  clear hK K
  (try simp only [Act.put, List.setIfInBounds_toArray, List.set_cons_zero, List.set_cons_succ])
  have HO2 := Lib.hid ho1
  clear ho1 hg1
  obtain ⟨A', c', rfl, hrow, hcc, hnil, hfar⟩ := own_sl HO2.out
  refine take_want (i := 14) (v := ?v14k0) rfl (by kernel_rfl) (by kernel_rfl) (by kernel_rfl) (fun _ _ _ h => h) (by rfl) ?y14k0 (by assumption) ?r14k0
  case y14k0 => (intro w hSw; go_simp; all_goals with_reducible rfl)
  (try simp only [Act.put, List.setIfInBounds_toArray, List.set_cons_zero, List.set_cons_succ])
  refine wpAnyH_ready (rs := [15]) (by kernel_rfl) (by simp) ?_
  refine AllReadyH.cons rfl (fun K hK => ?_) AllReadyH.nil
  go_simp
  refine hK.out _ _ (hHeld.alloc hHeld.size _) (fun hHeld2 => ?_)
  clear hK K
  (try simp only [Act.put, List.setIfInBounds_toArray, List.set_cons_zero, List.set_cons_succ])
  refine take_want (i := 16) (v := ?v16k0) rfl (by kernel_rfl) (by kernel_rfl) (by kernel_rfl) (fun _ _ _ h => h) (by rfl) ?y16k0 (by assumption) ?r16k0
  case y16k0 => (intro w hSw; go_simp; all_goals with_reducible rfl)
  (try simp only [Act.put, List.setIfInBounds_toArray, List.set_cons_zero, List.set_cons_succ])
  refine wpAnyH_done (by kernel_rfl) ?_ _
  go_wp2_with fail
  go_ret
  obtain ⟨w3, hw3⟩ : ∃ w3, w3 = w2.alloc (.cells #[.int .i64 R.room, .int .i64 R.fuse, .slice A' n c'] 60) := ⟨_, rfl⟩
  have hb3 : Below w2.heap.size w2 w3 := by rw [hw3]; exact bpush (Below.refl _ _) _
  have hbk : Blk w3 w2.heap.size 60 #[.int .i64 R.room, .int .i64 R.fuse, .slice A' n c'] := by rw [hw3]; exact Blk.new _ _ _
  rw [← hw3] at hHeld2 ⊢
  have hAlt : R.F ≠ [] → ∀ i o, A' = some ⟨i, o, none⟩ → i < w2.heap.size := fun hne i o e => by
    rcases hrow with h1 | ⟨b, off, e1, hc1⟩
    · have := cellsF_length R.F
      rw [h1] at this
      exact absurd (List.eq_nil_of_length_eq_zero (by simp at this; omega)) hne
    · rw [e1] at e; cases e
      cases hF : R.F with
      | nil => exact absurd hF hne
      | cons f F => rw [hF] at hc1; exact lt_of_cell (hc1 0 _ rfl)
  refine ⟨w2.heap.size, { R with A := A', n := n, c := c' }, rfl, ⟨HI.out.room, HI.out.fuse, HI.out.F⟩, ⟨hbk, hrow.keep (Nat.le_refl _) hb3, HN.out, hcc, hnil, fun f hf => (HH.out.files f hf).below hHeld2, fun i hi => ?_⟩, hHeld2, hHeld.size, fun i hi => ?_⟩
  · rcases hi with ⟨hne, o, e⟩ | ⟨f, hf, hne, o, e⟩
    · have := hAlt hne i o e; omega
    · have h1 := HH.out.lt (.inr (.inr ⟨f, hf, hne, o, e⟩))
      have h2 := hHeld.size
      omega
  · rcases hi with ⟨hne, o, e⟩ | h
    · exact .inr (hfar i o e)
    · exact .inl (.inr h)
end Go.Proofs.Ytaahomohhagcoaa
