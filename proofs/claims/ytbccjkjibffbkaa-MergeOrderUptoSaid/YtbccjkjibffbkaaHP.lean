/- Closure 32. -/
import Derived.Test.YtbccjkjibffbkaaMI
import Derived.Sort.LoopGhostIn
import Derived.WalkSpells
namespace Go.Proofs.Ytbccjkjibffbkaa
open Go.RowKit Go.Shelf
set_option linter.unusedSimpArgs false
set_option linter.unusedVariables false
attribute [local go_sem] Oper.semAt_some
theorem cu_tail {w : World} {b off n c id : Nat} {z : RZ} {T : List RZ} (h : CuOk w ⟨some ⟨b, off, none⟩, n, c, z :: T, id⟩) (hT : T ≠ []) : CuOk w ⟨some ⟨b, off + 4, none⟩, n - 1, c - 1, T, id⟩ := by
  have h1 := h.len
  have h2 := h.cap
  have h3 := h.max
  have h4 := List.length_pos_iff.2 hT
  simp at h1 h2 h3
  refine ⟨⟨?_, fun y hy => h.rows.good y (List.mem_cons_of_mem _ hy)⟩, by simp; omega, by simp; omega, by simp; omega, by simp; omega, h.id⟩
  rcases h.rows.row with h5 | ⟨b', off', e, hc⟩
  · exact absurd h5 (by simp [cellsR, encR])
  · cases e
    refine .inr ⟨b, off + 4, rfl, fun k u hu => ?_⟩
    have h6 := hc (4 + k) u (by
      show ((z :: T).flatMap encR)[4 + k]? = some u
      rw [List.flatMap_cons, List.getElem?_append_right (by show 4 ≤ 4 + k; omega)]
      have e : 4 + k - (encR z).length = k := by show 4 + k - 4 = k; omega
      rw [e]; exact hu)
    rw [show off + 4 + k = off + (4 + k) by omega]
    exact h6
theorem HpC.more {w0 ws w w' : World} {P : Nat} {C : List Cu} (h : HpC w0 ws P C w) (hb : Below w.heap.size w w') : HpC w0 ws P C w' := by
  obtain ⟨n, f, h1, h2, h3⟩ := h
  exact ⟨n, f, h1.more hb, h2, h3⟩
theorem HpC.kept {w0 ws w w' : World} {P : Nat} {C : List Cu} (h : HpC w0 ws P C w) (hk : KT w0.heap.size w w') : HpC w0 w' P C w' := by
  obtain ⟨n, f, h1, h2, h3⟩ := h
  exact ⟨n, f, h1.kept hk, h2, h3⟩
theorem MgSt.mem {R0 R : List (List RZ)} {pre : List RZ} (h : MgSt R0 R pre) : ∀ z ∈ pre, z ∈ R0.flatten := fun z hz => h.same.mem (List.mem_append_left _ hz)
def YR (J Jx : List RZ → World → Prop) (n₀ : Nat) (W : World) (pre : List RZ) (r : Bool) (W' : World) : Prop := (r = true ∧ J pre W' ∧ KT n₀ W W') ∨ (r = false ∧ Jx pre W')
theorem HpC.cell {w0 ws w : World} {P : Nat} {C : List Cu} (h : HpC w0 ws P C w) : ∃ H c, w.cell? ⟨P, 0, none⟩ = some (.slice H C.length c) := by
  obtain ⟨f, h1, _⟩ := h.len
  obtain ⟨v, h3, h4⟩ := h1.own
  obtain ⟨H, c, rfl⟩ := own_is h4
  exact ⟨H, c, by rw [h3.cell 0]; rfl⟩
theorem cursK_ok {w : World} {A : Option Addr} {L : List Le} (h : LsIn w A L) : ∀ k (hkL : k ≤ L.length), (∀ c ∈ cursK L k, ∃ hc : c.id < k, c.Z = (L[c.id]'(by omega)).Z ∧ c.Z ≠ []) ∧ (∀ i (hi : i < k), (L[i]'(by omega)).Z ≠ [] → ∃ c ∈ cursK L k, c.id = i) ∧ ((cursK L k).map Cu.id).Nodup := by
  intro k
  induction k with
  | zero => exact fun _ => ⟨fun c hc => absurd hc List.not_mem_nil, fun i hi => by omega, List.nodup_nil⟩
  | succ k ih =>
    intro hk
    obtain ⟨i1, i2, i3⟩ := ih (by omega)
    have hkl : k < L.length := by omega
    have hlen := (h.ok L[k] (List.getElem_mem _)).len
    by_cases h0 : L[k].n = 0
    · rw [cursK_skip hkl h0]
      refine ⟨fun c hc => ?_, fun i hi hne => ?_, i3⟩
      · obtain ⟨q, e⟩ := i1 c hc
        exact ⟨by omega, e⟩
      · by_cases e : i = k
        · subst e
          exact absurd (List.length_eq_zero_iff.1 (hlen.symm.trans h0)) hne
        · exact i2 i (by omega) hne
    · rw [cursK_add hkl h0]
      refine ⟨fun c hc => ?_, fun i hi hne => ?_, ?_⟩
      · rcases List.mem_append.1 hc with hc | hc
        · obtain ⟨q, e⟩ := i1 c hc
          exact ⟨by omega, e⟩
        · obtain rfl := List.mem_singleton.1 hc
          exact ⟨Nat.lt_succ_self k, rfl, fun e => h0 (by rw [hlen]; exact List.length_eq_zero_iff.2 e)⟩
      · by_cases e : i = k
        · exact ⟨cuAt L[k] k, by simp, e.symm⟩
        · obtain ⟨c, hc, e2⟩ := i2 i (by omega) hne
          exact ⟨c, List.mem_append_left _ hc, e2⟩
      · rw [List.map_append]
        refine List.nodup_append.2 ⟨i3, by simp, fun a ha b hb => ?_⟩
        obtain ⟨c, hc, rfl⟩ := List.mem_map.1 ha
        obtain ⟨q, _⟩ := i1 c hc
        have : b = k := by simpa [cuAt] using hb
        omega
theorem curs_start {w : World} {A : Option Addr} {L : List Le} {k : Nat} (h : LsIn w A L) (hk : k = L.length) : CurSt (L.map Le.Z) (cursK L k) := by
  subst hk
  obtain ⟨i1, i2, i3⟩ := cursK_ok h _ (Nat.le_refl _)
  refine ⟨fun c hc => ?_, fun i r hr hne => ?_, i3⟩
  · obtain ⟨q, e, hne⟩ := i1 c hc
    rw [List.getElem?_map, List.getElem?_eq_getElem q]
    exact ⟨by rw [e]; rfl, hne⟩
  · rw [List.getElem?_map] at hr
    obtain ⟨x, hx, rfl⟩ := Option.map_eq_some_iff.1 hr
    obtain ⟨hi, rfl⟩ := List.getElem?_eq_some_iff.1 hx
    exact i2 i hi hne
set_option maxRecDepth 100000 in
set_option maxHeartbeats 8000000 in
theorem all_in (n : Nat) (hn : 1 ≤ n) (l Bs len cap : Nat) (A : Option Addr) (L : List Le) (w0 W : World) (hlen : len = L.length) (hl : L.length ≤ 1900000)
    (hBs : W.cell? ⟨Bs, 0, none⟩ = some (.slice A len cap)) (hL : LsIn w0 A L) (hw : Below w0.heap.size w0 W) (hs : ∀ x ∈ L, SortedF sF x.Z)
    (J Jx : List RZ → World → Prop) (hJ : ∀ pre W1 W2, J pre W1 → KO W1 W2 → Below w0.heap.size w0 W1 → Below w0.heap.size w0 W2 → J pre W2)
    (hY : ∀ pre x W1, SortedF sF (pre ++ [x]) → (∃ T, SameF sF (L.map Le.Z).flatten ((pre ++ [x]) ++ T)) → J pre W1 → YieldAt Fence.wide (n - 1) Try.prog l #[.agg (encR x).toArray] W1 fun e W2 =>
      (e = .returned (.bool true) ∧ J (pre ++ [x]) W2 ∧ KT w0.heap.size W1 W2) ∨ (e = .returned (.bool false) ∧ Jx (pre ++ [x]) W2))
    (h0 : J [] W) :
    CallsIn Fence.wide n Try.prog 32 #[.func (.yield l) #[] #[], .pointer (some ⟨Bs, 0, none⟩)] W fun e W' => (∃ v, e = .returned v) ∧
      ((∃ M, SortedF sF M ∧ SameF sF (L.map Le.Z).flatten M ∧ J M W') ∨ (∃ pre, Jx pre W')) := by
  have HZ := Lib.hid hlen
  have HJ := Lib.hid hJ
  have HY := Lib.hid hY
  have HJ0 := Lib.hid h0
  have HBW := Lib.hid hw
  have HIN := Lib.hid hL
  have HSS := Lib.hid hs
  have hl9 : len ≤ 1900000 := by omega
  have b0 := hBs
  clear hw hlen hJ hY h0 hL hs
  refine callsIn_of_wp Try.func32 rfl trivial ?_ rfl
  simp only [Try.ntmps32, List.size_toArray, List.length_cons, List.length_nil, Nat.reduceAdd, Nat.reduceSub, Array.replicate_succ, Array.replicate_zero, List.push_toArray, List.append_toArray, List.nil_append, List.cons_append]
  have mi58 : ∀ (P : Nat) w, Sem.run Try.prog (Instr.makeInterface 58 (.pointer (some ⟨P, 0, none⟩))) w = .ok (hpI P) w := fun _ _ => by kernel_rfl
  obtain ⟨W1, hW1⟩ : ∃ w, w = (W.alloc (.cells #[] 63)).alloc (.cells #[.slice (some ⟨W.heap.size, 0, none⟩) 0 0] 60) := ⟨_, rfl⟩
  obtain ⟨P, hP⟩ : ∃ P, P = W.heap.size + 1 := ⟨_, rfl⟩
  have hbw1 : Below W.heap.size W W1 := by rw [hW1]; exact bpush (bpush (Below.refl _ _) _) _
  have hk1 : Blk W1 P 60 #[.slice (some ⟨W.heap.size, 0, none⟩) 0 0] := by
    have e : W.heap.size + 1 = (W.alloc (.cells #[] 63)).heap.size := by simp
    rw [hW1, hP, e]; exact Blk.new _ _ _
  have hk2 : Blk W1 W.heap.size 63 #[] := by rw [hW1]; exact (Blk.new W 63 #[]).alloc _
  have hst : HeapSt w0 W P 0 (fun _ => ⟨none, 0, 0, [], 0⟩) W1 := ⟨HBW.out.trans (hbw1.mono HBW.out.size), ⟨_, hk1, ⟨rfl, .inr ⟨W.heap.size, 0, #[], rfl, HBW.out.size, hk2, Nat.le_refl _, by unfold maxLen; omega, rfl, rfl⟩⟩⟩, (fun k hk => by omega), (by have := HBW.out.size; omega), (by omega), KO.below hbw1⟩
  have b1 : ((W.alloc (.cells #[] 63)).alloc (.cells #[.slice (some ⟨W.heap.size, 0, none⟩) 0 0] 60)).cell? ⟨Bs, 0, none⟩ = some (.slice A len cap) := by
    rw [← hW1]; exact cell_later hbw1 b0
  have HST := Lib.hid (show HpC w0 W P [] W1 from ⟨0, _, hst, (fun k h1 h2 => by omega), List.Perm.refl _⟩)
  have HW1 := Lib.hid hW1
  have HPP := Lib.hid hP
  clear hbw1 hk1 hk2 hst hW1 hP
  gi_wp2_with fail
  rw [← HW1.out, ← HPP.out]
  clear b1
  gi_loopw [12] (fun v12 wr => ∃ k : Nat, k ≤ len ∧ v12 = .int .i64 k ∧ Hid (HpC w0 W P (cursK L k) wr)) (fun i _ => len - (intOf i).toNat)
  case atStart => exact ⟨0, Nat.zero_le _, rfl, HST⟩
  case round =>
    clear HST
    obtain ⟨k, hk, rfl, HS⟩ := hrel
    by_cases hlt : k < len
    · have hkz0 : (0 : Int) ≤ (k : Int) := by omega
      have hkz1 : (k : Int) < (len : Int) := by omega
      have hkz : k < L.length := by have := HZ.out; omega
      have hbel : Below w0.heap.size w0 wr := by obtain ⟨m, f, h1, _⟩ := HS.out; exact h1.bel
      obtain ⟨b, off, hAe, c0, -⟩ := (HIN.out.keep hbel).at hkz
      obtain ⟨x, hx⟩ : ∃ x, x = L[k] := ⟨_, rfl⟩
      have hok : LeOk w0 x := hx ▸ HIN.out.ok _ (List.getElem_mem _)
      rw [← hx] at c0
      have HX := Lib.hid (show ∃ h : k < L.length, L[k] = x from ⟨hkz, hx.symm⟩)
      by_cases hx0 : x.n = 0
      · have HSK := Lib.hid (show cursK L (k + 1) = cursK L k from cursK_skip hkz (by rw [← hx]; exact hx0))
        rw [hx0] at c0
        rw [hAe]
        clear hx hok hlt hbel hkz
        gi_wp2_with fail
        go_roundw
        case rel => exact ⟨k + 1, by omega, by go_num, by rw [HSK.out]; exact HS⟩
        case measure => simp [intOf]; omega
      · have HSK := Lib.hid (show cursK L (k + 1) = cursK L k ++ [cuAt x k] from by rw [hx]; exact cursK_add hkz (by rw [← hx]; exact hx0))
        have hx1 : (0 : Int) < (x.n : Int) := by omega
        have HC := Lib.hid (hpush_c HS.out (x := cuAt x k) ⟨hok.rows, hok.len, (by show 0 < x.n; omega), hok.cap, hok.max, (by show k ≤ 2000000; omega)⟩ (by have := cursK_len L k; omega))
        have mi63 : ∀ w, Sem.run Try.prog (Instr.makeInterface 63 (.agg #[.slice x.A x.n x.c, .int .i64 k])) w = .ok (ifcU (cuAt x k)) w := fun _ => by kernel_rfl
        rw [hAe]
        clear hx hok hlt hbel hkz hx0
        gi_wp2_with fail
        refine ⟨trivial, (callsIn_wide.2 HC.out).mono ?_⟩
        rintro e w2 ⟨rfl, hb⟩
        have HB2 := Lib.hid hb
        clear hb
        dsimp only
        gi_wp2_with fail
        go_roundw
        case rel => exact ⟨k + 1, by omega, by go_num, by rw [HSK.out]; exact HB2⟩
        case measure => simp [intOf]; omega
    · obtain rfl : k = len := by omega
      have hkz1 : ¬ (k : Int) < (k : Int) := by omega
      clear hlt
      gi_wp2_with fail
      have hst2 := HS.out
      obtain ⟨n9, f9, hs9, ho9, hp9⟩ := hst2
      have HJ9 := Lib.hid (HJ.out [] W _ HJ0.out hs9.keep HBW.out hs9.bel)
      have HC9 := Lib.hid (show HpC w0 wr P (cursK L k) wr from ⟨n9, f9, hs9.rebase, ho9, hp9⟩)
      clear hs9 ho9 hp9 HS HJ0
      gi_loopg [] ((L.map Le.Z).flatten.length) (fun m wq => ∃ pre R C, Hid (MgSt (L.map Le.Z) R pre) ∧ Hid (CurSt R C) ∧ Hid (HpC w0 wq P C wq) ∧ Hid (J pre wq) ∧ Hid (m = R.flatten.length) ∧ C.length ≤ 1900000)
      case atStart => exact ⟨[], L.map Le.Z, cursK L k, Lib.hid (MgSt.start (by intro r hr; obtain ⟨x, hx, rfl⟩ := List.mem_map.1 hr; exact HSS.out x hx)), Lib.hid (curs_start HIN.out HZ.out), HC9, HJ9, Lib.hid rfl, by have := cursK_len L k; omega⟩
      case round =>
        obtain ⟨pre, R, C, HM, HCU, HH, HJP, HMS, hcl⟩ := hrel
        obtain ⟨wq, rfl⟩ : ∃ wq : World, wq = wr := ⟨_, rfl⟩
        obtain ⟨H, cp, hcell⟩ := HH.out.cell
        obtain ⟨m, hm⟩ : ∃ m, m = C.length := ⟨_, rfl⟩
        rw [← hm] at hcell hcl
        have HLE := Lib.hid (len_u H m cp wq)
        by_cases hm0 : m = 0
        · subst hm0
          have HD := Lib.hid (show C = [] from List.length_eq_zero_iff.1 hm.symm)
          clear hm
          gi_wp2_with fail
          refine ⟨trivial, (callsIn_wide.2 HLE.out).mono ?_⟩
          rintro e w3 ⟨rfl, rfl⟩
          dsimp only
          gi_wp2_with fail
          go_end0
          have hd := HM.out.done (CurSt.none (HD.out ▸ HCU.out))
          exact ⟨⟨_, rfl⟩, .inl ⟨pre, hd.1, hd.2, HJP.out⟩⟩
        · have hm1 : (0 : Int) < (m : Int) := by omega
          have HPO := Lib.hid (hpop_c HH.out (by intro e; rw [e] at hm; exact hm0 hm))
          have HCL := Lib.hid hm
          clear hm hm0
          have ta : ∀ x w, Sem.run Try.prog (Instr.typeAssert (ifcU x) 20 63 true) w = .ok (.tuple #[.agg #[.slice x.A x.n x.c, .int .i64 x.id], .bool true]) w := fun _ _ => by kernel_rfl
          gi_wp2_with fail
          refine ⟨trivial, (callsIn_wide.2 HLE.out).mono ?_⟩
          rintro e w3 ⟨rfl, rfl⟩
          dsimp only
          gi_wp2_with fail
          refine ⟨trivial, (callsIn_wide.2 HPO.out).mono ?_⟩
          rintro e w2 ⟨x, D, rfl, hh, hp, hx, hlow⟩
          obtain ⟨A2, n2, c2, Z2, id2⟩ := x
          dsimp only
          have hbel2 : Below w0.heap.size w0 w2 := by obtain ⟨m5, f5, h1, _⟩ := hh; exact h1.bel
          have hko : KO wq w2 := by obtain ⟨m5, f5, h1, _⟩ := hh; exact h1.keep
          obtain ⟨w3, hw3⟩ : ∃ w3, w3 = w2.alloc (.cells #[.slice A2 n2 c2, .int .i64 id2] 63) := ⟨_, rfl⟩
          have hb3 : Below w2.heap.size w2 w3 := by rw [hw3]; exact bpush (Below.refl _ _) _
          obtain ⟨b, off, hxA, q0, q1, q2, q3, -⟩ := hd_cells (hx.keep (hbel2.trans (hb3.mono hbel2.size)))
          obtain ⟨z, T, hZ2⟩ : ∃ z T, Z2 = z :: T := by
            cases Z2 with
            | nil => exact absurd hx.len (by have := hx.ne; simp at this ⊢; omega)
            | cons z T => exact ⟨z, T, rfl⟩
          obtain rfl : A2 = some ⟨b, off, none⟩ := hxA
          subst hZ2
          change w3.cell? ⟨b, off, none⟩ = some (.int .i64 z.2.t) at q0
          change w3.cell? ⟨b, off + 1, none⟩ = some (.slice z.1.D z.1.n z.1.c) at q1
          change w3.cell? ⟨b, off + 2, none⟩ = some (.int .i64 z.2.count) at q2
          change w3.cell? ⟨b, off + 3, none⟩ = some (.slice z.1.G z.1.gn z.1.gc) at q3
          have hn2 : (0 : Int) < (n2 : Int) := by have := hx.ne; simp at this; omega
          have hbq : Below w0.heap.size w0 wq := by obtain ⟨m6, f6, h6, _⟩ := HH.out; exact h6.bel
          have hJ3 : J pre w3 := HJ.out _ _ _ (HJ.out _ _ _ HJP.out hko hbq hbel2) (KO.below hb3) hbel2 (hbel2.trans (hb3.mono hbel2.size))
          obtain ⟨RA, RB, hRe, hRi, hRA, hRB⟩ := CurSt.split (HCU.out.perm hp) (z := z) (T := T) rfl hlow
          subst hRe
          have hst5 := HM.out.step hRA hRB
          have HST5 := Lib.hid hst5
          have HRI := Lib.hid hRi
          obtain ⟨fn, tmps, assign, body, hy1, hR1⟩ := HY.out pre z w3 hst5.psort ⟨_, hst5.same⟩ hJ3
          clear hst5 hRi hRA hRB
          rw [hw3] at q0 q1 q2 q3 hy1 hR1
          have hy2 : Sem.run Try.prog (Instr.yield l #[.agg #[.int .i64 z.2.t, .slice z.1.D z.1.n z.1.c, .int .i64 z.2.count, .slice z.1.G z.1.gn z.1.gc]]) (w2.alloc (.cells #[.slice (some ⟨b, off, none⟩) n2 c2, .int .i64 id2] 63)) = .ok (.round l fn tmps assign body) (w2.alloc (.cells #[.slice (some ⟨b, off, none⟩) n2 c2, .int .i64 id2] 63)) := hy1
          have hR2 : RoundIn Fence.wide (n - 1) Try.prog l fn tmps assign body (w2.alloc (.cells #[.slice (some ⟨b, off, none⟩) n2 c2, .int .i64 id2] 63)) fun e W' => ∃ r, e = .returned (.bool r) ∧ Hid (YR J Jx w0.heap.size w3 (pre ++ [z]) r W') := hR1.mono fun e W' h => by
            rcases h with ⟨rfl, h1, h2⟩ | ⟨rfl, h1⟩
            · exact ⟨true, rfl, Lib.hid (.inl ⟨rfl, h1, hw3 ▸ h2⟩)⟩
            · exact ⟨false, rfl, Lib.hid (.inr ⟨rfl, h1⟩)⟩
          have HR := Lib.hid hR2
          clear hy1 hR2
          have HHD := Lib.hid hh
          have HPE := Lib.hid hp
          have HX2 := Lib.hid hx
          have HLW := Lib.hid hlow
          have HW3 := Lib.hid hw3
          have HB3 := Lib.hid hb3
          clear hR1 hh hp hx hlow hw3 hb3 hJ3 hko hbel2 hbq
          have ta2 := ta ⟨some ⟨b, off, none⟩, n2, c2, z :: T, id2⟩
          clear ta
          gi_wp2_with fail
          refine HR.out.mono ?_
          rintro e W5 ⟨r, rfl, hr⟩
          dsimp only
          rcases r with _ | _
          · gi_wp2_with fail
            have hjx : Jx (pre ++ [z]) W5 := by
              rcases hr.out with ⟨h, _⟩ | ⟨_, h⟩
              · cases h
              · exact h
            first | (go_end0; exact ⟨⟨_, rfl⟩, .inr ⟨_, hjx⟩⟩) | (refine bodyPost_ret (results_none rfl _ _ _) rfl ?_; exact ⟨⟨_, rfl⟩, .inr ⟨_, hjx⟩⟩)
          · obtain ⟨hj5, hk5⟩ : J (pre ++ [z]) W5 ∧ KT w0.heap.size w3 W5 := by
              rcases hr.out with ⟨_, h1, h2⟩ | ⟨h, _⟩
              · exact ⟨h1, h2⟩
              · cases h
            have hbk : Blk W5 w2.heap.size 63 #[.slice (some ⟨b, off, none⟩) n2 c2, .int .i64 id2] := hk5.2 _ _ _ (.inr rfl) (by rw [HW3.out]; exact Blk.new _ _ _)
            have z0 : W5.cell? ⟨w2.heap.size, 0, none⟩ = some (.slice (some ⟨b, off, none⟩) n2 c2) := by rw [hbk.cell 0]; rfl
            have z1 : W5.cell? ⟨w2.heap.size, 1, none⟩ = some (.int .i64 id2) := by rw [hbk.cell 1]; rfl
            have HH5 := Lib.hid (HHD.out.kept ((KT.below HB3.out (by obtain ⟨m5, f5, h1, _⟩ := HHD.out; exact h1.bel.size)).trans hk5))
            have HCU5 := Lib.hid (HCU.out.perm HPE.out)
            have HJ5 := Lib.hid hj5
            have HLEN := Lib.hid HX2.out.len
            have HDL := Lib.hid HPE.out.length_eq
            clear hj5 hk5 hbk hr q0 q1 q2 q3 hy2 hcell
            by_cases hT : T = []
            · have hn1 : ¬ (1 : Int) < (n2 : Int) := by have h := HLEN.out; simp [hT] at h; omega
              gi_wp2_with fail
              gi_roundg ((RA ++ T :: RB).flatten.length)
              case rel => exact ⟨pre ++ [z], RA ++ T :: RB, D, HST5, Lib.hid (CurSt.next HCU5.out HRI.out hT), HH5, HJ5, Lib.hid rfl, by have h1 := HDL.out; have h2 := HCL.out; simp at h1; omega⟩
              case measure => rw [HMS.out]; simp
            · have hn1 : (1 : Int) < (n2 : Int) := by
                have h := HLEN.out
                have := List.length_pos_iff.2 hT
                simp at h; omega
              have hxn : CuOk w0 ⟨some ⟨b, off + 4, none⟩, n2 - 1, c2 - 1, T, id2⟩ := cu_tail HX2.out hT
              have HC7 := Lib.hid (hpush_c (ws := W5) (HpC.more HH5.out (Below.drew (Below.refl _ W5))) hxn (by have h1 := HDL.out; have h2 := HCL.out; simp at h1; omega))
              have mi63 : ∀ (a : Option Addr) (p q r : Nat) w, Sem.run Try.prog (Instr.makeInterface 63 (.agg #[.slice a p q, .int .i64 r])) w = .ok (.iface 63 (.agg #[.slice a p q, .int .i64 r])) w := fun _ _ _ _ _ => by kernel_rfl
              have hc2 : (n2 : Int) ≤ (c2 : Int) := by have := HX2.out.cap; simp at this; omega
              have HCU7 := Lib.hid ((CurSt.again (x' := ⟨some ⟨b, off + 4, none⟩, n2 - 1, c2 - 1, T, id2⟩) HCU5.out HRI.out hT rfl rfl).perm (List.perm_append_singleton _ _).symm)
              clear hxn
              gi_wp2_with fail
              gi_region_with (first | (refine ⟨trivial, ?_⟩; refine (callsIn_wide.2 HC7.out).mono ?_; rintro e W7 ⟨rfl, hb⟩) | (gi_at_call 33; refine (callsIn_wide.2 HC7.out).mono ?_; rintro e W7 ⟨rfl, hb⟩))
              all_goals (
                have hko7 : KO W5 W7 := (by obtain ⟨m7, f7, h7, _⟩ := hb; exact h7.keep)
                have HB7 := Lib.hid (show HpC w0 W7 P (D ++ [⟨some ⟨b, off + 4, none⟩, n2 - 1, c2 - 1, T, id2⟩]) W7 from (by obtain ⟨m7, f7, h7, h8⟩ := hb; exact ⟨m7, f7, h7.rebase, h8⟩))
                have HJ7 := Lib.hid (HJ.out _ _ _ HJ5.out hko7 (by obtain ⟨m8, f8, h8, _⟩ := HH5.out; exact h8.bel) (by obtain ⟨m8, f8, h8, _⟩ := HB7.out; exact h8.bel))
                clear hb hko7
                gi_wp2_with fail
                gi_roundg ((RA ++ T :: RB).flatten.length)
                case rel => exact ⟨pre ++ [z], RA ++ T :: RB, D ++ [⟨some ⟨b, off + 4, none⟩, n2 - 1, c2 - 1, T, id2⟩], HST5, HCU7, HB7, HJ7, Lib.hid rfl, by have h1 := HDL.out; have h2 := HCL.out; simp at h1 ⊢; omega⟩
                case measure => rw [HMS.out]; simp)
end Go.Proofs.Ytbccjkjibffbkaa
