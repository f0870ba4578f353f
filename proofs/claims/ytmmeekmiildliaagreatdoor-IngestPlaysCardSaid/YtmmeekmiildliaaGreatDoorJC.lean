/- The document's Add (19). -/
import Derived.Test.YtmmeekmiildliaaGreatDoorIL
import Derived.Test.YtmmeekmiildliaaGreatDoorJB
import Derived.Test.YtmmeekmiildliaaGreatDoorRS
namespace Go.Proofs.YtmmeekmiildliaaGreatDoor
open Go.RowKit Go.Maps
set_option linter.unusedSimpArgs false
set_option linter.unusedVariables false
theorem run_append_rowsn (w : World) (ty : TypeId) (base : Nat) (v : Value) (n : Nat) (xs : List Value) (hown : w.ownsRow base 59 4 v n xs) (A : Option Addr) (m c : Nat) (M : List RZ)
    (hrow : Row w A (cellsR M)) (hm : m = M.length) (hmc : m ≤ c) (ha : A = none → c = 0) (h63 : (n + m) * 64 ≤ 140737488355328) (hbase : base ≤ w.heap.size) :
    ∃ v' w', (Builtin.append_ #[46, 46] ty #[v, .slice A m c]).run Tryz.prog w = .ok v' w' ∧ w'.ownsRow base 59 4 v' (n + m) (xs ++ cellsR M) ∧ w.grownBy w' v.ownBlock ∧ (v'.ownBlock = v.ownBlock ∨ v'.ownBlock = some w.heap.size) := by
  obtain ⟨i0, hi0, hz0, hz1, hz2⟩ := info_parts info27
  cases A with
  | none =>
    have e1 : c = 0 := ha rfl
    have e2 : m = 0 := by omega
    have e3 : M = [] := List.eq_nil_of_length_eq_zero (by omega)
    subst e1 e2 e3
    have hrun := run_append_owned_none (P := Tryz.prog) (w := w) base 46 ty 59 i0 4 Tryz.underlying46 hi0 v n xs hown
    exact ⟨v, w, hrun, by simpa [cellsR] using hown, ⟨rfl, rfl, rfl, Nat.le_refl _, fun _ _ _ => rfl⟩, .inl rfl⟩
  | some a =>
    obtain ⟨v', w', hr, h2, h3, _, h5⟩ := run_append_own_at (P := Tryz.prog) w base 46 ty 59 i0 (.agg #[.int .i64 0, .slice none 0 0, .int .i64 0, .slice none 0 0]) 4 64 Tryz.underlying46 hi0 hz0 hz1 hz2 rfl (by decide) v n xs hown a m c (cellsR M) (by rw [cellsR_length, hm]) hrow.at' (one_cellsR M) (by unfold maxLen; omega) h63 hbase
    exact ⟨v', w', hr, h2, h3, h5⟩
theorem step_append_rowsn {w : World} {ops : Array Oper} {o : Oper} {a : Act} {K : Act → World → Prop} {Q : Exit → Act → World → Prop} {E : Prop} (hgd : o.guard = none) (s x : Operand)
    (ho : o.op = .call { callee := .builtin .append, args := #[s, x], argTypes := #[46, 46] })
    (base : Nat) (v : Value) (n : Nat) (xs : List Value) (hs : a.eval s = v) (A : Option Addr) (m c : Nat) (M : List RZ) (hx : a.eval x = .slice A m c) (hown : w.ownsRow base 59 4 v n xs)
    (hrow : Row w A (cellsR M)) (hm : m = M.length) (hmc : m ≤ c) (ha : A = none → c = 0) (h63 : (n + m) * 64 ≤ 140737488355328) (hbase : base ≤ w.heap.size)
    (h : ∀ v' w', w'.ownsRow base 59 4 v' (n + m) (xs ++ cellsR M) → w.grownBy w' v.ownBlock → (v'.ownBlock = v.ownBlock ∨ v'.ownBlock = some w.heap.size) → K (a.put o.dst v') w') :
    if Region.wanted o (yielded ops a.tmps) = true then Oper.wp Tryz.prog o a w K Q else E := by
  have hw : Region.wanted o (yielded ops a.tmps) = true := by simp [Region.wanted, hgd]
  rw [if_pos hw]
  obtain ⟨v', w', hr, h2, h3, h4⟩ := run_append_rowsn w o.type base v n xs hown A m c M hrow hm hmc ha h63 hbase
  unfold Oper.wp execOp
  simp only [ho, resolve, invoke, builtin, Sem.run_bind, Sem.run_pure, Result.andThen_ok, List.map_toArray, List.map_cons, List.map_nil, hs, hx, hr]
  exact h v' w' h2 h3 h4
theorem own_belowR {W W' : World} {B size k : Nat} {e : TypeId} {v : Value} {xs : List Value} (h : W.ownsRow B e size v k xs) (hb : Below W.heap.size W W') : W'.ownsRow B e size v k xs := own_below h hb
theorem row_grown0 {W W' : World} {b : Nat} {xs : List Value} {row : Option Nat} (h : Row W (some ⟨b, 0, none⟩) xs) (hg : W.grownBy W' row) (hr : row ≠ some b) : Row W' (some ⟨b, 0, none⟩) xs := by
  rcases h with h0 | ⟨b', off, e, hc⟩
  · exact .inl h0
  · cases e
    refine .inr ⟨b, 0, rfl, fun j u hu => ?_⟩
    have h1 := hc j u hu
    exact (cell_same (hg.block b (lt_of_cell h1) (fun e => hr e.symm))).trans h1
theorem row_set51 {W : World} {dx o : Nat} {u : Value} {A : Option Addr} {xs : List Value} {t : TypeId} {cs : Array Value} (h : Row W A xs) (hb : Blk W dx t cs) (hx : ∀ off : Nat, xs ≠ [] → ¬ ∀ (j : Nat) (u : Value), xs[j]? = some u → cs[off + j]? = some u) : Row (W.setCell ⟨dx, o, none⟩ u) A xs := by
  rcases h with h0 | ⟨b, off, rfl, hc⟩
  · exact .inl h0
  · by_cases h0 : xs = []
    · exact .inl h0
    · refine .inr ⟨b, off, rfl, fun j u hu => ?_⟩
      have hbx : b ≠ dx := fun e => by
        subst e
        exact hx off h0 fun j u hu => by rw [← hb.cell]; exact hc j u hu
      exact (cell_same (Below.heap_setCell W _ _ b hbx)).trans (hc j u hu)
section
variable {A E R : Option Addr} {n c m d l k : Nat} {g : Int}
theorem no_texts4 (D : List ByteArray) (off : Nat) (h0 : texts D ≠ []) : ¬ ∀ (j : Nat) (u : Value), (texts D)[j]? = some u → (#[.slice A n c, .slice E m d, .int .i64 g, .slice R l k] : Array Value)[off + j]? = some u := by
  intro h
  cases D with
  | nil => exact h0 rfl
  | cons s D =>
    have := h 0 _ rfl
    match off, this with
    | 0, h => simp at h
    | 1, h => simp at h
    | 2, h => simp at h
    | 3, h => simp at h
    | k + 4, h => simp at h
theorem no_aggs4 (D : List Ag) (off : Nat) (h0 : cellsG D ≠ []) : ¬ ∀ (j : Nat) (u : Value), (cellsG D)[j]? = some u → (#[.slice A n c, .slice E m d, .int .i64 g, .slice R l k] : Array Value)[off + j]? = some u := by
  intro h
  cases D with
  | nil => exact h0 rfl
  | cons s D =>
    have h1 := h 0 (.int .i64 s.1) rfl
    have h2 := h 1 (.int .i64 s.2.1) rfl
    match off, h1, h2 with
    | 0, h, _ => simp at h
    | 1, h, _ => simp at h
    | 2, _, h => simp at h
    | 3, h, _ => simp at h
    | k + 4, h, _ => simp at h
theorem no_rows4 (Z : List RZ) (off : Nat) (h0 : cellsR Z ≠ []) : ¬ ∀ (j : Nat) (u : Value), (cellsR Z)[j]? = some u → (#[.slice A n c, .slice E m d, .int .i64 g, .slice R l k] : Array Value)[off + j]? = some u := by
  intro h
  cases Z with
  | nil => exact h0 rfl
  | cons s D =>
    have h1 := h 0 (.int .i64 s.2.t) rfl
    have h2 := h 2 (.int .i64 s.2.count) rfl
    match off, h1, h2 with
    | 0, h, _ => simp at h
    | 1, h, _ => simp at h
    | 2, _, h => simp at h
    | 3, h, _ => simp at h
    | k + 4, h, _ => simp at h
end
theorem rowsc_set {W : World} {dx o : Nat} {u : Value} {B : Option Addr} {Z : List RZ} {A E R : Option Addr} {n c m d l k : Nat} {g : Int} (h : RowsC W B Z) (hb : Blk W dx 51 #[.slice A n c, .slice E m d, .int .i64 g, .slice R l k]) : RowsC (W.setCell ⟨dx, o, none⟩ u) B Z :=
  ⟨row_set51 h.row hb (no_rows4 Z), fun z hz => { h.good z hz with rd := row_set51 (h.good z hz).rd hb (no_texts4 _), rg := row_set51 (h.good z hz).rg hb (no_aggs4 _) }⟩
def RAddPost (w : World) (C dx : Nat) (g : Int) (L M : List ByteArray) (a : Int × List RV) (e : Ending) (w' : World) : Prop :=
  e = .returned (.int .i64 a.1) ∧ Dx w' C dx g L M a.2 ∧ Near dx w.heap.size w w'
set_option maxRecDepth 100000 in
set_option maxHeartbeats 16000000 in
theorem refadd_any (C dx : Nat) (g : Int) (L M : List ByteArray) (V : List RV) (E F : Option Addr) (p q x y : Nat) (t : Int) (D : List ByteArray) (X : List Int) (w : World) (h : Dx w C dx g L M V) (hV : Strict V) (hO : ∀ a ∈ V, OkX L.length M.length a) (hg : okGran g) (hnV : V.length ≤ 100000)
    (hE : Row w E (texts D)) (hF : Row w F (X.map (Value.int .i64))) (hp : p = D.length) (hx : x = X.length) (hD : ∀ s ∈ D, s.size ≤ 9223372036854775807) (hpq : p ≤ q) (hen : E = none → q = 0) (hs1 : p * 16 ≤ 140737488355328) (hs2 : x * 24 ≤ 140737488355328) (v : Int) (hv : CheckIs L M D X t v) :
    Calls Tryz.prog 19 #[.pointer (some ⟨dx, 0, none⟩), .agg #[.int .i64 t, .slice E p q, .slice F x y]] w (RAddPost w C dx g L M (addR V v (rowX t g D X))) := by
  have HI := Lib.hid h
  obtain ⟨sA, sn, sc, sE, sm, sd, R, k, Z, hblk, hln, hlm, hlk, hrn, hZV, hZR⟩ := h.blk
  obtain ⟨l, hl⟩ : ∃ l, l = V.length := ⟨_, rfl⟩
  rw [← hl] at hblk hlk
  obtain ⟨W1, hW1⟩ : ∃ W1, W1 = w.alloc (.cells #[.int .i64 t, .slice E p q, .slice F x y] 29) := ⟨_, rfl⟩
  have hb1 : Below w.heap.size w W1 := by rw [hW1]; exact bpush (Below.refl _ _) _
  have he1 : Blk W1 w.heap.size 29 #[.int .i64 t, .slice E p q, .slice F x y] := by rw [hW1]; exact Blk.new w 29 _
  have HCEL := Lib.hid (fun W (hW : Below W1.heap.size W1 W) => show (W.cell? ⟨dx, 0, none⟩ = some (.slice sA sn sc) ∧ W.cell? ⟨dx, 1, none⟩ = some (.slice sE sm sd) ∧ W.cell? ⟨dx, 2, none⟩ = some (.int .i64 g) ∧ W.cell? ⟨dx, 3, none⟩ = some (.slice R l k)) ∧ (W.cell? ⟨w.heap.size, 0, none⟩ = some (.int .i64 t) ∧ W.cell? ⟨w.heap.size, 1, none⟩ = some (.slice E p q) ∧ W.cell? ⟨w.heap.size, 2, none⟩ = some (.slice F x y)) from by
    have hk := hblk.grown (grown_none (bthen hb1 hW)) (by simp)
    have hk2 := he1.grown (grown_none hW) (by simp)
    exact ⟨⟨blk_get hk rfl, blk_get hk rfl, blk_get hk rfl, blk_get hk rfl⟩, blk_get hk2 rfl, blk_get hk2 rfl, blk_get hk2 rfl⟩)
  have HOF := Lib.hid (fun W (hW : Below W1.heap.size W1 W) => show Calls Tryz.prog 47 #[.agg #[.slice sA sn sc, .slice sE sm sd], .agg #[.int .i64 t, .slice E p q, .slice F x y]] W (FlatPost W (ofR t D X v)) from
    (refof_any sA sE E F sn sc sm sd p q x y t L M D X W (hE.keep (Nat.le_refl _) (bthen hb1 hW)) (hF.keep (Nat.le_refl _) (bthen hb1 hW)) hln hlm hp hx hD hpq hen hs1 hs2 v hv).mono fun e w' k => k.flat)
  have HV := Lib.hid hv
  have HB1 := Lib.hid hb1
  have HW1 := Lib.hid hW1
  have HBLK := Lib.hid hblk
  have HG := Lib.hid hg
  have HST := Lib.hid hV
  have HOX := Lib.hid hO
  have HLK := Lib.hid hlk
  have HRN := Lib.hid hrn
  have HZV := Lib.hid hZV
  have HZR := Lib.hid hZR
  have HLV := Lib.hid hl
  have hl5 : l ≤ 100000 := by omega
  have HLZ := Lib.hid (show l = Z.length by rw [hl, ← hZV, List.length_map])
  have hlx := h.lx
  have hdl : dx < w.heap.size := hblk.lt
  have HLN := Lib.hid hln
  have HLM := Lib.hid hlm
  clear h hblk hb1 he1 hW1 hln hlm hv hE hF hp hx hD hpq hen hs1 hs2 hV hO hg hnV hlk hrn hZV hZR hl
  go_enter Tryz.func19, Tryz.ntmps19
  go_upto_region 1 with fail
  rw [← HW1.out]
  go_cut [5, 6] (fun s5 s6 wx => ∃ (r5 : Nat) (DD : Option Addr) (dn dc : Nat) (GG : Option Addr) (gn gc : Nat) (tz : Int) (Lz : List ByteArray) (uz : Int) (Xz : List Ag), s5 = .pointer (some ⟨r5, 0, none⟩) ∧ s6 = .int .i64 v ∧ Hid (Blk wx r5 59 #[.int .i64 tz, .slice DD dn dc, .int .i64 uz, .slice GG gn gc]) ∧ Hid ((⟨tz, Lz, uz, Xz⟩ : RV) = (ofR t D X v).1) ∧ Hid (Owned w.heap.size wx (⟨DD, dn, dc, GG, gn, gc⟩, ⟨tz, Lz, uz, Xz⟩)) ∧ Hid (W1.heap.size ≤ r5) ∧ Hid (Below W1.heap.size W1 wx))
  case first =>
    have hb9 : Below W1.heap.size W1 W1.drew := below_drewN (Below.refl _ _) 1
    refine wp_region_held_drew (S := fun W => ((W.cell? ⟨dx, 0, none⟩ = some (.slice sA sn sc) ∧ W.cell? ⟨dx, 1, none⟩ = some (.slice sE sm sd) ∧ W.cell? ⟨dx, 2, none⟩ = some (.int .i64 g) ∧ W.cell? ⟨dx, 3, none⟩ = some (.slice R l k)) ∧ (W.cell? ⟨w.heap.size, 0, none⟩ = some (.int .i64 t) ∧ W.cell? ⟨w.heap.size, 1, none⟩ = some (.slice E p q) ∧ W.cell? ⟨w.heap.size, 2, none⟩ = some (.slice F x y))) ∧ Below W1.heap.size W1 W) (by kernel_rfl) (⟨HCEL.out _ hb9, hb9⟩) ?_
    intro hHeld
    refine take_want (i := 0) (v := ?v0k1) rfl (by kernel_rfl) (by kernel_rfl) (by kernel_rfl) (fun _ _ _ h => h) (by rfl) ?y0k1 (by assumption) ?r0k1
    case y0k1 => (intro w hSw; obtain ⟨⟨⟨q0, q1, q2, q3⟩, ⟨f0, f1, f2⟩⟩, -⟩ := hSw; go_simp; all_goals with_reducible rfl)
    (try simp only [Act.put, List.setIfInBounds_toArray, List.set_cons_zero, List.set_cons_succ])
    refine take_want (i := 1) (v := ?v1k1) rfl (by kernel_rfl) (by kernel_rfl) (by kernel_rfl) (fun _ _ _ h => h) (by rfl) ?y1k1 (by assumption) ?r1k1
    case y1k1 => (intro w hSw; obtain ⟨⟨⟨q0, q1, q2, q3⟩, ⟨f0, f1, f2⟩⟩, -⟩ := hSw; go_simp; all_goals with_reducible rfl)
    (try simp only [Act.put, List.setIfInBounds_toArray, List.set_cons_zero, List.set_cons_succ])
    refine take_want (i := 2) (v := ?v2k1) rfl (by kernel_rfl) (by kernel_rfl) (by kernel_rfl) (fun _ _ _ h => h) (by rfl) ?y2k1 (by assumption) ?r2k1
    case y2k1 => (intro w hSw; obtain ⟨⟨⟨q0, q1, q2, q3⟩, ⟨f0, f1, f2⟩⟩, -⟩ := hSw; go_simp; all_goals with_reducible rfl)
    (try simp only [Act.put, List.setIfInBounds_toArray, List.set_cons_zero, List.set_cons_succ])
    refine take_want (i := 3) (v := ?v3k1) rfl (by kernel_rfl) (by kernel_rfl) (by kernel_rfl) (fun _ _ _ h => h) (by rfl) ?y3k1 (by assumption) ?r3k1
    case y3k1 => (intro w hSw; obtain ⟨⟨⟨q0, q1, q2, q3⟩, ⟨f0, f1, f2⟩⟩, -⟩ := hSw; go_simp; all_goals with_reducible rfl)
    (try simp only [Act.put, List.setIfInBounds_toArray, List.set_cons_zero, List.set_cons_succ])
    refine take_want (i := 4) (v := ?v4k1) rfl (by kernel_rfl) (by kernel_rfl) (by kernel_rfl) (fun _ _ _ h => h) (by rfl) ?y4k1 (by assumption) ?r4k1
    case y4k1 => (intro w hSw; obtain ⟨⟨⟨q0, q1, q2, q3⟩, ⟨f0, f1, f2⟩⟩, -⟩ := hSw; go_simp; all_goals with_reducible rfl)
    (try simp only [Act.put, List.setIfInBounds_toArray, List.set_cons_zero, List.set_cons_succ])
    refine wpAnyH_ready (rs := [5, 9]) (by kernel_rfl) (by simp) ?_
    refine AllReadyH.cons rfl (fun K hK => ?_) (AllReadyH.cons rfl (fun K hK => ?_) AllReadyH.nil)
    · go_simp
      (go_at_call 47; refine (HOF.out _ hHeld.2).mono ?_; rintro e w8 ⟨DD, dn, dc, GG, gn, gc, tz, Lz, uz, Xz, rfl, hz2, ho, hb⟩)
      have hk := bthen hHeld.2 hb
      refine hK.out _ _ (⟨HCEL.out _ hk, hk⟩) (fun hHeld => ?_)
      clear hK K
      (try simp only [Act.put, List.setIfInBounds_toArray, List.set_cons_zero, List.set_cons_succ])
      refine take_want (i := 6) (v := ?v6k2) rfl (by kernel_rfl) (by kernel_rfl) (by kernel_rfl) (fun _ _ _ h => h) (by rfl) ?y6k2 (by assumption) ?r6k2
      case y6k2 => (intro w hSw; go_simp; all_goals with_reducible rfl)
      (try simp only [Act.put, List.setIfInBounds_toArray, List.set_cons_zero, List.set_cons_succ])
      refine take_want (i := 7) (v := ?v7k2) rfl (by kernel_rfl) (by kernel_rfl) (by kernel_rfl) (fun _ _ _ h => h) (by rfl) ?y7k2 (by assumption) ?r7k2
      case y7k2 => (intro w hSw; go_simp; all_goals with_reducible rfl)
      (try simp only [Act.put, List.setIfInBounds_toArray, List.set_cons_zero, List.set_cons_succ])
      refine take_want (i := 8) (v := ?v8k2) rfl (by kernel_rfl) (by kernel_rfl) (by kernel_rfl) (fun _ _ _ h => h) (by rfl) ?y8k2 (by assumption) ?r8k2
      case y8k2 => (intro w hSw; go_simp; all_goals with_reducible rfl)
      (try simp only [Act.put, List.setIfInBounds_toArray, List.set_cons_zero, List.set_cons_succ])
      refine wpAnyH_ready (rs := [9]) (by kernel_rfl) (by simp) ?_
      refine AllReadyH.cons rfl (fun K hK => ?_) AllReadyH.nil
      have hge : W1.heap.size ≤ w8.heap.size := hHeld.2.size
      go_simp
      have hk := bpush hHeld.2 (.cells #[.int .i64 0, .slice none 0 0, .int .i64 0, .slice none 0 0] 59)
      refine hK.out _ _ (by first | exact ⟨HCEL.out _ hk, hk⟩ | (simp at hk ⊢; exact ⟨HCEL.out _ hk, hk⟩)) (fun hHeld => ?_)
      clear hK K
      (try simp only [Act.put, List.setIfInBounds_toArray, List.set_cons_zero, List.set_cons_succ])
      obtain ⟨wz, hwz⟩ : ∃ x, x = w8.alloc (.cells #[.int .i64 0, .slice none 0 0, .int .i64 0, .slice none 0 0] 59) := ⟨_, rfl⟩
      have hbz : Below w8.heap.size w8 wz := by rw [hwz]; first | exact bpush (Below.refl _ _) _ | exact below_drewN (bpush (Below.refl _ _) _) 1
      have hbx : Blk wz w8.heap.size 59 #[.int .i64 0, .slice none 0 0, .int .i64 0, .slice none 0 0] := by rw [hwz]; exact Blk.new w8 59 _
      have hzs : wz.heap.size = w8.heap.size + 1 := by rw [hwz]; simp
      rw [← hwz] at hHeld ⊢
      clear hwz hk
      have ho := ho.keep hbz
      have hz1 := HB1.out.size
      have hz2' : W1.drew.heap.size = W1.heap.size := rfl
      have hz3 := hb.size
      have HBX := Lib.hid hbx
      have HO1 := Lib.hid (ho.less (C := w.heap.size) (by omega))
      have HZ2 := Lib.hid hz2
      clear hbx ho hz2
      have e0 := HBX.out.cell 0
      have e1 := HBX.out.cell 1
      have e2 := HBX.out.cell 2
      have e3 := HBX.out.cell 3
      simp at e0 e1 e2 e3
      have ef := HBX.out.frozen
      refine wpAnyH_ready (rs := [10]) (by kernel_rfl) (by simp) ?_
      refine AllReadyH.cons rfl (fun K hK => ?_) AllReadyH.nil
      go_simp
      have hBs := bset (bset (bset (bset hHeld.2 (o := 0) hge (.int .i64 tz)) (o := 1) hge (.slice DD dn dc)) (o := 2) hge (.int .i64 uz)) (o := 3) hge (.slice GG gn gc)
      refine hK.out _ _ (by first | exact ⟨HCEL.out _ hBs, hBs⟩ | (simp at hBs ⊢; exact ⟨HCEL.out _ hBs, hBs⟩)) (fun hHeld2 => ?_)
      clear hK K
      (try simp only [Act.put, List.setIfInBounds_toArray, List.set_cons_zero, List.set_cons_succ])
      have hHeld := hHeld2
      refine take_want (i := 11) (v := ?v11k2) rfl (by kernel_rfl) (by kernel_rfl) (by kernel_rfl) (fun _ _ _ h => h) (by rfl) ?y11k2 (by assumption) ?r11k2
      case y11k2 => (intro w hSw; go_simp; all_goals with_reducible rfl)
      (try simp only [Act.put, List.setIfInBounds_toArray, List.set_cons_zero, List.set_cons_succ])
      refine wpAnyH_done (by kernel_rfl) ?_ _
      go_wp2_with fail
      go_meet
      have hbx2 := (((HBX.out.set_ 0 (.int .i64 tz)).set_ 1 (.slice DD dn dc)).set_ 2 (.int .i64 uz)).set_ 3 (.slice GG gn gc)
      simp at hbx2
      have hod := owned_set4 HO1.out HBX.out (.int .i64 tz) (.slice DD dn dc) (.int .i64 uz) (.slice GG gn gc)
      exact ⟨w8.heap.size, DD, dn, dc, GG, gn, gc, tz, Lz, uz, Xz, rfl, by rw [ofR_err], Lib.hid hbx2, Lib.hid HZ2.out, Lib.hid hod, Lib.hid (show W1.heap.size ≤ w8.heap.size from hge), Lib.hid hHeld2.2⟩
    · have hge : W1.heap.size ≤ W1.heap.size := Nat.le_refl _
      go_simp
      have hk := bpush hHeld.2 (.cells #[.int .i64 0, .slice none 0 0, .int .i64 0, .slice none 0 0] 59)
      refine hK.out _ _ (by first | exact ⟨HCEL.out _ hk, hk⟩ | (simp at hk ⊢; exact ⟨HCEL.out _ hk, hk⟩)) (fun hHeld => ?_)
      clear hK K
      (try simp only [Act.put, List.setIfInBounds_toArray, List.set_cons_zero, List.set_cons_succ])
      obtain ⟨wz, hwz⟩ : ∃ x, x = (W1.alloc (.cells #[.int .i64 0, .slice none 0 0, .int .i64 0, .slice none 0 0] 59)).drew := ⟨_, rfl⟩
      have hbz : Below W1.heap.size W1 wz := by rw [hwz]; first | exact bpush (Below.refl _ _) _ | exact below_drewN (bpush (Below.refl _ _) _) 1
      have hbx : Blk wz W1.heap.size 59 #[.int .i64 0, .slice none 0 0, .int .i64 0, .slice none 0 0] := by rw [hwz]; exact Blk.new W1 59 _
      have hzs : wz.heap.size = W1.heap.size + 1 := by rw [hwz]; simp
      rw [← hwz] at hHeld ⊢
      clear hwz hk
      refine wpAnyH_ready (rs := [5]) (by kernel_rfl) (by simp) ?_
      refine AllReadyH.cons rfl (fun K hK => ?_) AllReadyH.nil
      go_simp
      (go_at_call 47; refine (HOF.out _ hHeld.2).mono ?_; rintro e w8 ⟨DD, dn, dc, GG, gn, gc, tz, Lz, uz, Xz, rfl, hz2, ho, hb⟩)
      have hk := bthen hHeld.2 hb
      refine hK.out _ _ (⟨HCEL.out _ hk, hk⟩) (fun hHeld => ?_)
      clear hK K
      (try simp only [Act.put, List.setIfInBounds_toArray, List.set_cons_zero, List.set_cons_succ])
      refine take_want (i := 6) (v := ?v6k3) rfl (by kernel_rfl) (by kernel_rfl) (by kernel_rfl) (fun _ _ _ h => h) (by rfl) ?y6k3 (by assumption) ?r6k3
      case y6k3 => (intro w hSw; go_simp; all_goals with_reducible rfl)
      (try simp only [Act.put, List.setIfInBounds_toArray, List.set_cons_zero, List.set_cons_succ])
      refine take_want (i := 7) (v := ?v7k3) rfl (by kernel_rfl) (by kernel_rfl) (by kernel_rfl) (fun _ _ _ h => h) (by rfl) ?y7k3 (by assumption) ?r7k3
      case y7k3 => (intro w hSw; go_simp; all_goals with_reducible rfl)
      (try simp only [Act.put, List.setIfInBounds_toArray, List.set_cons_zero, List.set_cons_succ])
      refine take_want (i := 8) (v := ?v8k3) rfl (by kernel_rfl) (by kernel_rfl) (by kernel_rfl) (fun _ _ _ h => h) (by rfl) ?y8k3 (by assumption) ?r8k3
      case y8k3 => (intro w hSw; go_simp; all_goals with_reducible rfl)
      (try simp only [Act.put, List.setIfInBounds_toArray, List.set_cons_zero, List.set_cons_succ])
      have hbx := hbx.grown (grown_none hb) (by simp)
      have hz1 := HB1.out.size
      have hz2' : W1.drew.heap.size = W1.heap.size := rfl
      have hz3 := hb.size
      have HBX := Lib.hid hbx
      have HO1 := Lib.hid (ho.less (C := w.heap.size) (by omega))
      have HZ2 := Lib.hid hz2
      clear hbx ho hz2
      have e0 := HBX.out.cell 0
      have e1 := HBX.out.cell 1
      have e2 := HBX.out.cell 2
      have e3 := HBX.out.cell 3
      simp at e0 e1 e2 e3
      have ef := HBX.out.frozen
      refine wpAnyH_ready (rs := [10]) (by kernel_rfl) (by simp) ?_
      refine AllReadyH.cons rfl (fun K hK => ?_) AllReadyH.nil
      go_simp
      have hBs := bset (bset (bset (bset hHeld.2 (o := 0) hge (.int .i64 tz)) (o := 1) hge (.slice DD dn dc)) (o := 2) hge (.int .i64 uz)) (o := 3) hge (.slice GG gn gc)
      refine hK.out _ _ (by first | exact ⟨HCEL.out _ hBs, hBs⟩ | (simp at hBs ⊢; exact ⟨HCEL.out _ hBs, hBs⟩)) (fun hHeld2 => ?_)
      clear hK K
      (try simp only [Act.put, List.setIfInBounds_toArray, List.set_cons_zero, List.set_cons_succ])
      have hHeld := hHeld2
      refine take_want (i := 11) (v := ?v11k3) rfl (by kernel_rfl) (by kernel_rfl) (by kernel_rfl) (fun _ _ _ h => h) (by rfl) ?y11k3 (by assumption) ?r11k3
      case y11k3 => (intro w hSw; go_simp; all_goals with_reducible rfl)
      (try simp only [Act.put, List.setIfInBounds_toArray, List.set_cons_zero, List.set_cons_succ])
      refine wpAnyH_done (by kernel_rfl) ?_ _
      go_wp2_with fail
      go_meet
      have hbx2 := (((HBX.out.set_ 0 (.int .i64 tz)).set_ 1 (.slice DD dn dc)).set_ 2 (.int .i64 uz)).set_ 3 (.slice GG gn gc)
      simp at hbx2
      have hod := owned_set4 HO1.out HBX.out (.int .i64 tz) (.slice DD dn dc) (.int .i64 uz) (.slice GG gn gc)
      exact ⟨W1.heap.size, DD, dn, dc, GG, gn, gc, tz, Lz, uz, Xz, rfl, by rw [ofR_err], Lib.hid hbx2, Lib.hid HZ2.out, Lib.hid hod, Lib.hid (show W1.heap.size ≤ W1.heap.size from hge), Lib.hid hHeld2.2⟩
  case rest =>
  obtain ⟨r5, DD, dn, dc, GG, gn, gc, tz, Lz, uz, Xz, rfl, rfl, HBX, HZ2, HOD, HGE, HBW⟩ := hcut
  obtain ⟨w2, hw2⟩ : ∃ W, W = wc := ⟨_, rfl⟩
  subst hw2
  by_cases hv0 : v = 0
  case neg =>
    have z1 : (v != 0) = true := by rw [bne_iff_ne]; exact hv0
    have ha : addR V v (rowX t g D X) = (v, V) := by unfold addR; rw [if_neg hv0]
    have HA := Lib.hid ha
    clear ha hv0
    go_wp2_with fail
    go_ret
    exact ⟨by rw [HA.out]; rfl, by rw [HA.out]; exact HI.out.keep (bthen HB1.out HBW.out), Near.of (bthen HB1.out HBW.out) (Nat.le_refl _)⟩
  case pos =>
  have HEV := Lib.hid (HV.out.ok hv0)
  have hzz := HZ2.out
  subst hv0
  have hoz : (ofR t D X 0).1 = ⟨t, D, 1, onesG X⟩ := by unfold ofR; rw [if_pos rfl]
  rw [hoz] at hzz
  cases hzz
  have e0 := HBX.out.cell 0
  have ef := HBX.out.frozen
  simp at e0
  have HFL := Lib.hid (fun W => rFloor_good t g W (rowX_time HEV.out HG.out))
  clear HZ2 hoz HOF HV
  obtain ⟨⟨q0, q1, q2, q3⟩, ⟨f0, f1, f2⟩⟩ := HCEL.out w2 HBW.out
  go_upto_region 4 with fail
  have HBWD := Lib.hid (show Below W1.heap.size W1 w2.drew from HBW.out.trans (below_drewN (Below.refl _ _) 1))
  clear q0 q1 q2 q3 f0 f1 f2
  refine wp_region_held_drew (S := fun W => (((W.cell? ⟨dx, 0, none⟩ = some (.slice sA sn sc) ∧ W.cell? ⟨dx, 1, none⟩ = some (.slice sE sm sd) ∧ W.cell? ⟨dx, 2, none⟩ = some (.int .i64 g) ∧ W.cell? ⟨dx, 3, none⟩ = some (.slice R l k)) ∧ (W.cell? ⟨w.heap.size, 0, none⟩ = some (.int .i64 t) ∧ W.cell? ⟨w.heap.size, 1, none⟩ = some (.slice E p q) ∧ W.cell? ⟨w.heap.size, 2, none⟩ = some (.slice F x y))) ∧ Below W1.heap.size W1 W) ∧ W.cell? ⟨r5, 0, none⟩ = some (.int .i64 t)) (by kernel_rfl) (⟨⟨HCEL.out _ HBWD.out, HBWD.out⟩, e0⟩) ?_
  intro hHeld
  refine take_want (i := 0) (v := ?v0k4) rfl (by kernel_rfl) (by kernel_rfl) (by kernel_rfl) (fun _ _ _ h => h) (by rfl) ?y0k4 (by assumption) ?r0k4
  case y0k4 => (intro w hSw; obtain ⟨⟨⟨⟨q0, q1, q2, q3⟩, ⟨f0, f1, f2⟩⟩, -⟩, p0⟩ := hSw; go_simp; all_goals with_reducible rfl)
  (try simp only [Act.put, List.setIfInBounds_toArray, List.set_cons_zero, List.set_cons_succ])
  refine take_want (i := 1) (v := ?v1k4) rfl (by kernel_rfl) (by kernel_rfl) (by kernel_rfl) (fun _ _ _ h => h) (by rfl) ?y1k4 (by assumption) ?r1k4
  case y1k4 => (intro w hSw; obtain ⟨⟨⟨⟨q0, q1, q2, q3⟩, ⟨f0, f1, f2⟩⟩, -⟩, p0⟩ := hSw; go_simp; all_goals with_reducible rfl)
  (try simp only [Act.put, List.setIfInBounds_toArray, List.set_cons_zero, List.set_cons_succ])
  refine take_want (i := 2) (v := ?v2k4) rfl (by kernel_rfl) (by kernel_rfl) (by kernel_rfl) (fun _ _ _ h => h) (by rfl) ?y2k4 (by assumption) ?r2k4
  case y2k4 => (intro w hSw; obtain ⟨⟨⟨⟨q0, q1, q2, q3⟩, ⟨f0, f1, f2⟩⟩, -⟩, p0⟩ := hSw; go_simp; all_goals with_reducible rfl)
  (try simp only [Act.put, List.setIfInBounds_toArray, List.set_cons_zero, List.set_cons_succ])
  refine take_want (i := 3) (v := ?v3k4) rfl (by kernel_rfl) (by kernel_rfl) (by kernel_rfl) (fun _ _ _ h => h) (by rfl) ?y3k4 (by assumption) ?r3k4
  case y3k4 => (intro w hSw; obtain ⟨⟨⟨⟨q0, q1, q2, q3⟩, ⟨f0, f1, f2⟩⟩, -⟩, p0⟩ := hSw; go_simp; all_goals with_reducible rfl)
  (try simp only [Act.put, List.setIfInBounds_toArray, List.set_cons_zero, List.set_cons_succ])
  refine take_want (i := 4) (v := ?v4k4) rfl (by kernel_rfl) (by kernel_rfl) (by kernel_rfl) (fun _ _ _ h => h) (by rfl) ?y4k4 (by assumption) ?r4k4
  case y4k4 => (intro w hSw; obtain ⟨⟨⟨⟨q0, q1, q2, q3⟩, ⟨f0, f1, f2⟩⟩, -⟩, p0⟩ := hSw; go_simp; all_goals with_reducible rfl)
  (try simp only [Act.put, List.setIfInBounds_toArray, List.set_cons_zero, List.set_cons_succ])
  refine take_want (i := 5) (v := ?v5k4) rfl (by kernel_rfl) (by kernel_rfl) (by kernel_rfl) (fun _ _ _ h => h) (by rfl) ?y5k4 (by assumption) ?r5k4
  case y5k4 => (intro w hSw; obtain ⟨⟨⟨⟨q0, q1, q2, q3⟩, ⟨f0, f1, f2⟩⟩, -⟩, p0⟩ := hSw; go_simp; all_goals with_reducible rfl)
  (try simp only [Act.put, List.setIfInBounds_toArray, List.set_cons_zero, List.set_cons_succ])
  refine wpAnyH_ready (rs := [6]) (by kernel_rfl) (by simp) ?_
  refine AllReadyH.cons rfl (fun K hK => ?_) AllReadyH.nil
  go_simp
  (go_at_call 48; refine (HFL.out _).mono ?_; rintro e x6 ⟨rfl, rfl⟩)
  refine hK.out _ _ (hHeld) (fun hHeld => ?_)
  clear hK K
  (try simp only [Act.put, List.setIfInBounds_toArray, List.set_cons_zero, List.set_cons_succ])
  refine take_want (i := 7) (v := ?v7k4) rfl (by kernel_rfl) (by kernel_rfl) (by kernel_rfl) (fun _ _ _ h => h) (by rfl) ?y7k4 (by assumption) ?r7k4
  case y7k4 => (intro w hSw; go_simp; all_goals with_reducible rfl)
  (try simp only [Act.put, List.setIfInBounds_toArray, List.set_cons_zero, List.set_cons_succ])
  refine take_want (i := 8) (v := ?v8k4) rfl (by kernel_rfl) (by kernel_rfl) (by kernel_rfl) (fun _ _ _ h => h) (by rfl) ?y8k4 (by assumption) ?r8k4
  case y8k4 => (intro w hSw; go_simp; all_goals with_reducible rfl)
  (try simp only [Act.put, List.setIfInBounds_toArray, List.set_cons_zero, List.set_cons_succ])
  refine take_want (i := 9) (v := ?v9k4) rfl (by kernel_rfl) (by kernel_rfl) (by kernel_rfl) (fun _ _ _ h => h) (by rfl) ?y9k4 (by assumption) ?r9k4
  case y9k4 => (intro w hSw; go_simp; all_goals with_reducible rfl)
  (try simp only [Act.put, List.setIfInBounds_toArray, List.set_cons_zero, List.set_cons_succ])
  refine take_want (i := 10) (v := ?v10k4) rfl (by kernel_rfl) (by kernel_rfl) (by kernel_rfl) (fun _ _ _ h => h) (by rfl) ?y10k4 (by assumption) ?r10k4
  case y10k4 => (intro w hSw; go_simp; all_goals with_reducible rfl)
  (try simp only [Act.put, List.setIfInBounds_toArray, List.set_cons_zero, List.set_cons_succ])
  refine take_want (i := 11) (v := ?v11k4) rfl (by kernel_rfl) (by kernel_rfl) (by kernel_rfl) (fun _ _ _ h => h) (by rfl) ?y11k4 (by assumption) ?r11k4
  case y11k4 => (intro w hSw; go_simp; all_goals with_reducible rfl)
  (try simp only [Act.put, List.setIfInBounds_toArray, List.set_cons_zero, List.set_cons_succ])
  refine wpAnyH_done (by kernel_rfl) ?_ _
  go_upto_region 6 with fail
  obtain ⟨w3, hw3⟩ : ∃ x, x = (w2.setCell ⟨r5, 0, none⟩ (.int .i64 (flr t g))).drew := ⟨_, rfl⟩
  have hge := HGE.out
  have hBs : Below W1.heap.size W1 w3 := by rw [hw3]; exact bset HBWD.out (b := r5) (o := 0) hge (.int .i64 (flr t g))
  have HX3 := Lib.hid (show Blk w3 r5 59 #[.int .i64 (flr t g), .slice DD dn dc, .int .i64 1, .slice GG gn gc] by have h := (show Blk w2.drew r5 59 _ from HBX.out).set_ 0 (.int .i64 (flr t g)); simp at h; rw [hw3]; exact h)
  have hO3 : Owned w.heap.size w3 (⟨DD, dn, dc, GG, gn, gc⟩, ⟨t, D, 1, onesG X⟩) := by rw [hw3]; exact owned_set1 (HOD.out.keep (below_drewN (Below.refl _ _) 1)) (show Blk w2.drew r5 59 _ from HBX.out) _
  have HB3 := Lib.hid hBs
  have HBA := Lib.hid (bthen HB1.out hBs)
  obtain ⟨z, hz⟩ : ∃ z : RZ, z = (⟨DD, dn, dc, GG, gn, gc⟩, rowX t g D X) := ⟨_, rfl⟩
  have HGZ := Lib.hid (show Good w3 z by rw [hz]; exact (show Owned w.heap.size w3 (⟨DD, dn, dc, GG, gn, gc⟩, rowX t g D X) from ⟨hO3.d, hO3.g, hO3.sd, hO3.sg⟩).good)
  have HOK := Lib.hid (rowX_ok HEV.out HG.out)
  have HZ := Lib.hid hz
  have HZ3 := Lib.hid (show RowsC w3 R Z from HZR.out.keep (bthen HB1.out hBs))
  have HDB3 := Lib.hid (HBLK.out.grown (grown_none (bthen HB1.out hBs)) (by simp))
  have HQQ := Lib.hid (show ∀ y ∈ Z ++ [z], RowQ M.length L.length y.2 from fun y hy => by
    rcases List.mem_append.1 hy with h1 | h1
    · have hm : y.2 ∈ V := by rw [← HZV.out]; exact List.mem_map_of_mem h1
      exact ⟨(HOX.out _ hm).r, (HOX.out _ hm).d.len⟩
    · rw [List.mem_singleton.1 h1, HZ.out]; exact ⟨HOK.out.r, HOK.out.d.len⟩)
  have HC3 := Lib.hid (fun W (hW : Below w3.heap.size w3 W) => show (W.cell? ⟨dx, 0, none⟩ = some (.slice sA sn sc) ∧ W.cell? ⟨dx, 1, none⟩ = some (.slice sE sm sd) ∧ W.cell? ⟨dx, 2, none⟩ = some (.int .i64 g) ∧ W.cell? ⟨dx, 3, none⟩ = some (.slice R l k)) ∧ (W.cell? ⟨r5, 0, none⟩ = some (.int .i64 (flr t g)) ∧ W.cell? ⟨r5, 1, none⟩ = some (.slice DD dn dc) ∧ W.cell? ⟨r5, 2, none⟩ = some (.int .i64 1) ∧ W.cell? ⟨r5, 3, none⟩ = some (.slice GG gn gc)) from by
    have hk := HDB3.out.grown (grown_none hW) (by simp)
    have hk2 := HX3.out.grown (grown_none hW) (by simp)
    exact ⟨⟨blk_get hk rfl, blk_get hk rfl, blk_get hk rfl, blk_get hk rfl⟩, blk_get hk2 rfl, blk_get hk2 rfl, blk_get hk2 rfl, blk_get hk2 rfl⟩)
  have hez : encR z = [.int .i64 (flr t g), .slice DD dn dc, .int .i64 1, .slice GG gn gc] := by rw [hz]; rfl
  have HEZ := Lib.hid hez
  obtain ⟨i0, hi0, hz0, hz1, hz2⟩ := info_parts info27
  rw [← hw3]
  clear hw3 hBs hO3 hz hez e0 ef HOD HBX HBWD HFL HZR hHeld
  go_cut [9, 10] (fun s9 s10 wx => ∃ (B9 : Option Addr) (O9 : List RZ) (c9 : Nat) (x9 : Int), s9 = .slice B9 O9.length c9 ∧ s10 = .int .i64 x9 ∧ Hid (refF [] ((Z ++ [z]).map Prod.snd) = (O9.map Prod.snd, x9)) ∧ Hid (RowsC wx B9 O9) ∧ Hid (O9.length ≤ c9 ∧ (B9 = none → c9 = 0)) ∧ Hid (Below w3.heap.size w3 wx))
  case first =>
    have hd3 : Below w3.heap.size w3 w3.drew := below_drewN (Below.refl _ _) 1
    refine wp_region_held_drew (S := fun W => ((W.cell? ⟨dx, 0, none⟩ = some (.slice sA sn sc) ∧ W.cell? ⟨dx, 1, none⟩ = some (.slice sE sm sd) ∧ W.cell? ⟨dx, 2, none⟩ = some (.int .i64 g) ∧ W.cell? ⟨dx, 3, none⟩ = some (.slice R l k)) ∧ (W.cell? ⟨r5, 0, none⟩ = some (.int .i64 (flr t g)) ∧ W.cell? ⟨r5, 1, none⟩ = some (.slice DD dn dc) ∧ W.cell? ⟨r5, 2, none⟩ = some (.int .i64 1) ∧ W.cell? ⟨r5, 3, none⟩ = some (.slice GG gn gc))) ∧ Below w3.heap.size w3 W) (by kernel_rfl) (⟨HC3.out _ hd3, hd3⟩) ?_
    intro hHeld
    refine take_want (i := 1) (v := ?v1k5) rfl (by kernel_rfl) (by kernel_rfl) (by kernel_rfl) (fun _ _ _ h => h) (by rfl) ?y1k5 (by assumption) ?r1k5
    case y1k5 => (intro w hSw; obtain ⟨⟨⟨q0, q1, q2, q3⟩, ⟨p0, p1, p2, p3⟩⟩, -⟩ := hSw; go_simp; all_goals with_reducible rfl)
    (try simp only [Act.put, List.setIfInBounds_toArray, List.set_cons_zero, List.set_cons_succ])
    refine take_want (i := 2) (v := ?v2k5) rfl (by kernel_rfl) (by kernel_rfl) (by kernel_rfl) (fun _ _ _ h => h) (by rfl) ?y2k5 (by assumption) ?r2k5
    case y2k5 => (intro w hSw; obtain ⟨⟨⟨q0, q1, q2, q3⟩, ⟨p0, p1, p2, p3⟩⟩, -⟩ := hSw; go_simp; all_goals with_reducible rfl)
    (try simp only [Act.put, List.setIfInBounds_toArray, List.set_cons_zero, List.set_cons_succ])
    refine take_want (i := 3) (v := ?v3k5) rfl (by kernel_rfl) (by kernel_rfl) (by kernel_rfl) (fun _ _ _ h => h) (by rfl) ?y3k5 (by assumption) ?r3k5
    case y3k5 => (intro w hSw; obtain ⟨⟨⟨q0, q1, q2, q3⟩, ⟨p0, p1, p2, p3⟩⟩, -⟩ := hSw; go_simp; all_goals with_reducible rfl)
    (try simp only [Act.put, List.setIfInBounds_toArray, List.set_cons_zero, List.set_cons_succ])
    refine take_want (i := 4) (v := ?v4k5) rfl (by kernel_rfl) (by kernel_rfl) (by kernel_rfl) (fun _ _ _ h => h) (by rfl) ?y4k5 (by assumption) ?r4k5
    case y4k5 => (intro w hSw; obtain ⟨⟨⟨q0, q1, q2, q3⟩, ⟨p0, p1, p2, p3⟩⟩, -⟩ := hSw; go_simp; all_goals with_reducible rfl)
    (try simp only [Act.put, List.setIfInBounds_toArray, List.set_cons_zero, List.set_cons_succ])
    refine take_want (i := 6) (v := ?v6k5) rfl (by kernel_rfl) (by kernel_rfl) (by kernel_rfl) (fun _ _ _ h => h) (by rfl) ?y6k5 (by assumption) ?r6k5
    case y6k5 => (intro w hSw; obtain ⟨⟨⟨q0, q1, q2, q3⟩, ⟨p0, p1, p2, p3⟩⟩, -⟩ := hSw; go_simp; all_goals with_reducible rfl)
    (try simp only [Act.put, List.setIfInBounds_toArray, List.set_cons_zero, List.set_cons_succ])
    refine wpAnyH_ready (rs := [0, 7]) (by kernel_rfl) (by simp) ?_
    refine AllReadyH.cons rfl (fun K hK => ?_) (AllReadyH.cons rfl (fun K hK => ?_) AllReadyH.nil)
    · go_simp
      have hk := bpush hHeld.2 (.cells #[] 59)
      refine hK.out _ _ (by first | exact ⟨HC3.out _ hk, hk⟩ | (simp at hk ⊢; exact ⟨HC3.out _ hk, hk⟩)) (fun hHeld => ?_)
      clear hK K
      (try simp only [Act.put, List.setIfInBounds_toArray, List.set_cons_zero, List.set_cons_succ])
      obtain ⟨V2, hV2⟩ : ∃ x, x = (w3.alloc (.cells #[] 59)).drew := ⟨_, rfl⟩
      have bV2 : Below w3.heap.size w3 V2 := by rw [hV2]; first | exact bpush (Below.refl _ _) _ | exact below_drewN (bpush (Below.refl _ _) _) 1
      have ltV2 : w3.heap.size < V2.heap.size := by rw [hV2]; simp
      have lV2 : w3.heap.size ≤ V2.heap.size := by omega
      have hoe : V2.ownsRow w3.heap.size 59 4 (.slice (some ⟨w3.heap.size, 0, none⟩) 0 0) 0 [] := by rw [hV2]; first | exact own_empty (by omega) | exact own_dr (own_empty (by omega)) 1
      rw [← hV2] at hHeld ⊢
      clear hV2 hk
      refine wpAnyH_ready (rs := [5, 7]) (by kernel_rfl) (by simp) ?_
      refine AllReadyH.cons rfl (fun K hK => ?_) (AllReadyH.cons rfl (fun K hK => ?_) AllReadyH.nil)
      · refine step_append_rowsn rfl _ _ rfl w3.heap.size (.slice (some ⟨w3.heap.size, 0, none⟩) 0 0) 0 [] (by first | rfl | (simp; done)) R l k Z (by first | rfl | (simp; done)) hoe (HZ3.out.row.keep (Nat.le_refl _) hHeld.2) HLZ.out HLK.out HRN.out (by have := hl5; omega) (by omega) ?_
        intro v5 w5 ho5 hg5 hd5
        rw [Nat.zero_add, List.nil_append] at ho5
        obtain ⟨A5, c5, rfl⟩ := own_is ho5
        have hb5 : Below w3.heap.size w3 w5 := hHeld.2.trans (grown_below4 hoe hg5 (by omega))
        have hz5 := hg5.size
        refine hK.out _ _ ⟨HC3.out _ hb5, hb5⟩ (fun hHeld => ?_)
        clear hK K
        (try simp only [Act.put, List.setIfInBounds_toArray, List.set_cons_zero, List.set_cons_succ])
        refine wpAnyH_ready (rs := [7]) (by kernel_rfl) (by simp) ?_
        refine AllReadyH.cons rfl (fun K hK => ?_) AllReadyH.nil
        go_simp
        have hk := bpush hHeld.2 (.cells #[.int .i64 (flr t g), .slice DD dn dc, .int .i64 1, .slice GG gn gc] 59)
        refine hK.out _ _ (by first | exact ⟨HC3.out _ hk, hk⟩ | (simp at hk ⊢; exact ⟨HC3.out _ hk, hk⟩)) (fun hHeld => ?_)
        clear hK K
        (try simp only [Act.put, List.setIfInBounds_toArray, List.set_cons_zero, List.set_cons_succ])
        obtain ⟨V7, hV7⟩ : ∃ x, x = w5.alloc (.cells #[.int .i64 (flr t g), .slice DD dn dc, .int .i64 1, .slice GG gn gc] 59) := ⟨_, rfl⟩
        have bV7 : Below w5.heap.size w5 V7 := by rw [hV7]; first | exact bpush (Below.refl _ _) _ | exact below_drewN (bpush (Below.refl _ _) _) 1
        have ltV7 : w5.heap.size < V7.heap.size := by rw [hV7]; simp
        have lV7 : w3.heap.size ≤ V7.heap.size := by omega
        have hnw : Row V7 (some ⟨w5.heap.size, 0, none⟩) (encR z) := by rw [HEZ.out, hV7]; exact (Row.made rfl rfl : Row (w5.alloc (.cells #[.int .i64 (flr t g), .slice DD dn dc, .int .i64 1, .slice GG gn gc] 59)) (some ⟨w5.heap.size, 0, none⟩) [.int .i64 (flr t g), .slice DD dn dc, .int .i64 1, .slice GG gn gc])
        rw [← hV7] at hHeld ⊢
        clear hV7 hk
        have ho5 := own_belowR ho5 bV7
        refine wpAnyH_ready (rs := [8]) (by kernel_rfl) (by simp) ?_
        refine AllReadyH.cons rfl (fun K hK => ?_) AllReadyH.nil
        refine step_append_at rfl _ _ 46 rfl w3.heap.size 59 i0 (.agg #[.int .i64 0, .slice none 0 0, .int .i64 0, .slice none 0 0]) 4 64 Tryz.underlying46 hi0 hz0 hz1 hz2 rfl (by decide) (.slice A5 l c5) l (cellsR Z) (by first | rfl | (simp; done)) ho5 ⟨w5.heap.size, 0, none⟩ 1 1 (encR z) (by first | rfl | (simp; done)) rfl hnw.at' (by intro u hu; simp [encR] at hu; rcases hu with rfl | rfl | rfl | rfl <;> rfl) (by unfold maxLen; omega) (by omega) (by omega) ?_
        intro v8 w8 ho8 hg8 hd8
        have HO8 := Lib.hid (show w8.ownsRow w3.heap.size 59 4 v8 (l + 1) (cellsR (Z ++ [z])) by rw [cellsR_app]; simpa [cellsR] using ho8)
        obtain ⟨hl8, A8, c8, rfl, hr8, hc8, -, hn8⟩ := own_sliceR HO8.out
        have hb8 : Below w3.heap.size w3 w8 := hHeld.2.trans (grown_below4 ho5 hg8 (by omega))
        have HRC := Lib.hid (show RowsC w8 A8 (Z ++ [z]) from ⟨hr8, fun y hy => by
  rcases List.mem_append.1 hy with h1 | h1
  · exact (HZ3.out.good y h1).keep hb8
  · rw [List.mem_singleton.1 h1]; exact HGZ.out.keep hb8⟩)
        refine hK.out _ _ ⟨HC3.out _ hb8, hb8⟩ (fun hHeld => ?_)
        clear hK K
        (try simp only [Act.put, List.setIfInBounds_toArray, List.set_cons_zero, List.set_cons_succ])
        clear ho8 hg8 hd8 hr8 hl8 hc8 hn8 HO8 ho5 hnw
        refine wpAnyH_ready (rs := [9]) (by kernel_rfl) (by simp) ?_
        refine AllReadyH.cons rfl (fun K hK => ?_) AllReadyH.nil
        go_simp
        (go_at_call 49; refine (reffold_any A8 (l + 1) c8 M.length L.length (Z ++ [z]) w8 HRC.out (by rw [List.length_append, HLZ.out]; rfl) (by omega) HQQ.out).mono ?_; rintro e w9 ⟨B9, O9, c9, x9, rfl, hf9, hr9, hc9, hb9⟩)
        have HF9 := Lib.hid hf9
        clear hf9
        have hk := bthen hb8 hb9
        refine hK.out _ _ (⟨HC3.out _ hk, hk⟩) (fun hHeld => ?_)
        clear hK K
        (try simp only [Act.put, List.setIfInBounds_toArray, List.set_cons_zero, List.set_cons_succ])
        refine take_want (i := 10) (v := ?v10k7) rfl (by kernel_rfl) (by kernel_rfl) (by kernel_rfl) (fun _ _ _ h => h) (by rfl) ?y10k7 (by assumption) ?r10k7
        case y10k7 => (intro w hSw; go_simp; all_goals with_reducible rfl)
        (try simp only [Act.put, List.setIfInBounds_toArray, List.set_cons_zero, List.set_cons_succ])
        refine take_want (i := 11) (v := ?v11k7) rfl (by kernel_rfl) (by kernel_rfl) (by kernel_rfl) (fun _ _ _ h => h) (by rfl) ?y11k7 (by assumption) ?r11k7
        case y11k7 => (intro w hSw; go_simp; all_goals with_reducible rfl)
        (try simp only [Act.put, List.setIfInBounds_toArray, List.set_cons_zero, List.set_cons_succ])
        refine take_want (i := 12) (v := ?v12k7) rfl (by kernel_rfl) (by kernel_rfl) (by kernel_rfl) (fun _ _ _ h => h) (by rfl) ?y12k7 (by assumption) ?r12k7
        case y12k7 => (intro w hSw; go_simp; all_goals with_reducible rfl)
        (try simp only [Act.put, List.setIfInBounds_toArray, List.set_cons_zero, List.set_cons_succ])
        refine take_want (i := 13) (v := ?v13k7) rfl (by kernel_rfl) (by kernel_rfl) (by kernel_rfl) (fun _ _ _ h => h) (by rfl) ?y13k7 (by assumption) ?r13k7
        case y13k7 => (intro w hSw; go_simp; all_goals with_reducible rfl)
        (try simp only [Act.put, List.setIfInBounds_toArray, List.set_cons_zero, List.set_cons_succ])
        refine take_want (i := 14) (v := ?v14k7) rfl (by kernel_rfl) (by kernel_rfl) (by kernel_rfl) (fun _ _ _ h => h) (by rfl) ?y14k7 (by assumption) ?r14k7
        case y14k7 => (intro w hSw; go_simp; all_goals with_reducible rfl)
        (try simp only [Act.put, List.setIfInBounds_toArray, List.set_cons_zero, List.set_cons_succ])
        refine wpAnyH_done (by kernel_rfl) ?_ _
        go_wp2_with fail
        go_meet
        exact ⟨B9, O9, c9, x9, rfl, rfl, HF9, Lib.hid hr9, Lib.hid hc9, Lib.hid hk⟩
      · go_simp
        have hk := bpush hHeld.2 (.cells #[.int .i64 (flr t g), .slice DD dn dc, .int .i64 1, .slice GG gn gc] 59)
        refine hK.out _ _ (by first | exact ⟨HC3.out _ hk, hk⟩ | (simp at hk ⊢; exact ⟨HC3.out _ hk, hk⟩)) (fun hHeld => ?_)
        clear hK K
        (try simp only [Act.put, List.setIfInBounds_toArray, List.set_cons_zero, List.set_cons_succ])
        obtain ⟨V7, hV7⟩ : ∃ x, x = V2.alloc (.cells #[.int .i64 (flr t g), .slice DD dn dc, .int .i64 1, .slice GG gn gc] 59) := ⟨_, rfl⟩
        have bV7 : Below V2.heap.size V2 V7 := by rw [hV7]; first | exact bpush (Below.refl _ _) _ | exact below_drewN (bpush (Below.refl _ _) _) 1
        have ltV7 : V2.heap.size < V7.heap.size := by rw [hV7]; simp
        have lV7 : w3.heap.size ≤ V7.heap.size := by omega
        have hnw : Row V7 (some ⟨V2.heap.size, 0, none⟩) (encR z) := by rw [HEZ.out, hV7]; exact (Row.made rfl rfl : Row (V2.alloc (.cells #[.int .i64 (flr t g), .slice DD dn dc, .int .i64 1, .slice GG gn gc] 59)) (some ⟨V2.heap.size, 0, none⟩) [.int .i64 (flr t g), .slice DD dn dc, .int .i64 1, .slice GG gn gc])
        rw [← hV7] at hHeld ⊢
        clear hV7 hk
        have hoe := own_belowR hoe bV7
        refine wpAnyH_ready (rs := [5]) (by kernel_rfl) (by simp) ?_
        refine AllReadyH.cons rfl (fun K hK => ?_) AllReadyH.nil
        refine step_append_rowsn rfl _ _ rfl w3.heap.size (.slice (some ⟨w3.heap.size, 0, none⟩) 0 0) 0 [] (by first | rfl | (simp; done)) R l k Z (by first | rfl | (simp; done)) hoe (HZ3.out.row.keep (Nat.le_refl _) hHeld.2) HLZ.out HLK.out HRN.out (by have := hl5; omega) (by omega) ?_
        intro v5 w5 ho5 hg5 hd5
        rw [Nat.zero_add, List.nil_append] at ho5
        obtain ⟨A5, c5, rfl⟩ := own_is ho5
        have hb5 : Below w3.heap.size w3 w5 := hHeld.2.trans (grown_below4 hoe hg5 (by omega))
        have hz5 := hg5.size
        refine hK.out _ _ ⟨HC3.out _ hb5, hb5⟩ (fun hHeld => ?_)
        clear hK K
        (try simp only [Act.put, List.setIfInBounds_toArray, List.set_cons_zero, List.set_cons_succ])
        have hnw := row_grown0 hnw hg5 (show (Value.slice (some ⟨w3.heap.size, 0, none⟩) 0 0).ownBlock ≠ some V2.heap.size from fun e => by have e2 : w3.heap.size = V2.heap.size := Option.some.inj e; omega)
        refine wpAnyH_ready (rs := [8]) (by kernel_rfl) (by simp) ?_
        refine AllReadyH.cons rfl (fun K hK => ?_) AllReadyH.nil
        refine step_append_at rfl _ _ 46 rfl w3.heap.size 59 i0 (.agg #[.int .i64 0, .slice none 0 0, .int .i64 0, .slice none 0 0]) 4 64 Tryz.underlying46 hi0 hz0 hz1 hz2 rfl (by decide) (.slice A5 l c5) l (cellsR Z) (by first | rfl | (simp; done)) ho5 ⟨V2.heap.size, 0, none⟩ 1 1 (encR z) (by first | rfl | (simp; done)) rfl hnw.at' (by intro u hu; simp [encR] at hu; rcases hu with rfl | rfl | rfl | rfl <;> rfl) (by unfold maxLen; omega) (by omega) (by omega) ?_
        intro v8 w8 ho8 hg8 hd8
        have HO8 := Lib.hid (show w8.ownsRow w3.heap.size 59 4 v8 (l + 1) (cellsR (Z ++ [z])) by rw [cellsR_app]; simpa [cellsR] using ho8)
        obtain ⟨hl8, A8, c8, rfl, hr8, hc8, -, hn8⟩ := own_sliceR HO8.out
        have hb8 : Below w3.heap.size w3 w8 := hHeld.2.trans (grown_below4 ho5 hg8 (by omega))
        have HRC := Lib.hid (show RowsC w8 A8 (Z ++ [z]) from ⟨hr8, fun y hy => by
  rcases List.mem_append.1 hy with h1 | h1
  · exact (HZ3.out.good y h1).keep hb8
  · rw [List.mem_singleton.1 h1]; exact HGZ.out.keep hb8⟩)
        refine hK.out _ _ ⟨HC3.out _ hb8, hb8⟩ (fun hHeld => ?_)
        clear hK K
        (try simp only [Act.put, List.setIfInBounds_toArray, List.set_cons_zero, List.set_cons_succ])
        clear ho8 hg8 hd8 hr8 hl8 hc8 hn8 HO8 ho5 hnw
        refine wpAnyH_ready (rs := [9]) (by kernel_rfl) (by simp) ?_
        refine AllReadyH.cons rfl (fun K hK => ?_) AllReadyH.nil
        go_simp
        (go_at_call 49; refine (reffold_any A8 (l + 1) c8 M.length L.length (Z ++ [z]) w8 HRC.out (by rw [List.length_append, HLZ.out]; rfl) (by omega) HQQ.out).mono ?_; rintro e w9 ⟨B9, O9, c9, x9, rfl, hf9, hr9, hc9, hb9⟩)
        have HF9 := Lib.hid hf9
        clear hf9
        have hk := bthen hb8 hb9
        refine hK.out _ _ (⟨HC3.out _ hk, hk⟩) (fun hHeld => ?_)
        clear hK K
        (try simp only [Act.put, List.setIfInBounds_toArray, List.set_cons_zero, List.set_cons_succ])
        refine take_want (i := 10) (v := ?v10k8) rfl (by kernel_rfl) (by kernel_rfl) (by kernel_rfl) (fun _ _ _ h => h) (by rfl) ?y10k8 (by assumption) ?r10k8
        case y10k8 => (intro w hSw; go_simp; all_goals with_reducible rfl)
        (try simp only [Act.put, List.setIfInBounds_toArray, List.set_cons_zero, List.set_cons_succ])
        refine take_want (i := 11) (v := ?v11k8) rfl (by kernel_rfl) (by kernel_rfl) (by kernel_rfl) (fun _ _ _ h => h) (by rfl) ?y11k8 (by assumption) ?r11k8
        case y11k8 => (intro w hSw; go_simp; all_goals with_reducible rfl)
        (try simp only [Act.put, List.setIfInBounds_toArray, List.set_cons_zero, List.set_cons_succ])
        refine take_want (i := 12) (v := ?v12k8) rfl (by kernel_rfl) (by kernel_rfl) (by kernel_rfl) (fun _ _ _ h => h) (by rfl) ?y12k8 (by assumption) ?r12k8
        case y12k8 => (intro w hSw; go_simp; all_goals with_reducible rfl)
        (try simp only [Act.put, List.setIfInBounds_toArray, List.set_cons_zero, List.set_cons_succ])
        refine take_want (i := 13) (v := ?v13k8) rfl (by kernel_rfl) (by kernel_rfl) (by kernel_rfl) (fun _ _ _ h => h) (by rfl) ?y13k8 (by assumption) ?r13k8
        case y13k8 => (intro w hSw; go_simp; all_goals with_reducible rfl)
        (try simp only [Act.put, List.setIfInBounds_toArray, List.set_cons_zero, List.set_cons_succ])
        refine take_want (i := 14) (v := ?v14k8) rfl (by kernel_rfl) (by kernel_rfl) (by kernel_rfl) (fun _ _ _ h => h) (by rfl) ?y14k8 (by assumption) ?r14k8
        case y14k8 => (intro w hSw; go_simp; all_goals with_reducible rfl)
        (try simp only [Act.put, List.setIfInBounds_toArray, List.set_cons_zero, List.set_cons_succ])
        refine wpAnyH_done (by kernel_rfl) ?_ _
        go_wp2_with fail
        go_meet
        exact ⟨B9, O9, c9, x9, rfl, rfl, HF9, Lib.hid hr9, Lib.hid hc9, Lib.hid hk⟩
    · go_simp
      have hk := bpush hHeld.2 (.cells #[.int .i64 (flr t g), .slice DD dn dc, .int .i64 1, .slice GG gn gc] 59)
      refine hK.out _ _ (by first | exact ⟨HC3.out _ hk, hk⟩ | (simp at hk ⊢; exact ⟨HC3.out _ hk, hk⟩)) (fun hHeld => ?_)
      clear hK K
      (try simp only [Act.put, List.setIfInBounds_toArray, List.set_cons_zero, List.set_cons_succ])
      obtain ⟨V7, hV7⟩ : ∃ x, x = (w3.alloc (.cells #[.int .i64 (flr t g), .slice DD dn dc, .int .i64 1, .slice GG gn gc] 59)).drew := ⟨_, rfl⟩
      have bV7 : Below w3.heap.size w3 V7 := by rw [hV7]; first | exact bpush (Below.refl _ _) _ | exact below_drewN (bpush (Below.refl _ _) _) 1
      have ltV7 : w3.heap.size < V7.heap.size := by rw [hV7]; simp
      have lV7 : w3.heap.size ≤ V7.heap.size := by omega
      have hnw : Row V7 (some ⟨w3.heap.size, 0, none⟩) (encR z) := by rw [HEZ.out, hV7]; exact (Row.made rfl rfl : Row (w3.alloc (.cells #[.int .i64 (flr t g), .slice DD dn dc, .int .i64 1, .slice GG gn gc] 59)) (some ⟨w3.heap.size, 0, none⟩) [.int .i64 (flr t g), .slice DD dn dc, .int .i64 1, .slice GG gn gc])
      rw [← hV7] at hHeld ⊢
      clear hV7 hk
      refine wpAnyH_ready (rs := [0]) (by kernel_rfl) (by simp) ?_
      refine AllReadyH.cons rfl (fun K hK => ?_) AllReadyH.nil
      go_simp
      have hk := bpush hHeld.2 (.cells #[] 59)
      refine hK.out _ _ (by first | exact ⟨HC3.out _ hk, hk⟩ | (simp at hk ⊢; exact ⟨HC3.out _ hk, hk⟩)) (fun hHeld => ?_)
      clear hK K
      (try simp only [Act.put, List.setIfInBounds_toArray, List.set_cons_zero, List.set_cons_succ])
      obtain ⟨V2, hV2⟩ : ∃ x, x = V7.alloc (.cells #[] 59) := ⟨_, rfl⟩
      have bV2 : Below V7.heap.size V7 V2 := by rw [hV2]; first | exact bpush (Below.refl _ _) _ | exact below_drewN (bpush (Below.refl _ _) _) 1
      have ltV2 : V7.heap.size < V2.heap.size := by rw [hV2]; simp
      have lV2 : w3.heap.size ≤ V2.heap.size := by omega
      have hoe : V2.ownsRow w3.heap.size 59 4 (.slice (some ⟨V7.heap.size, 0, none⟩) 0 0) 0 [] := by rw [hV2]; first | exact own_empty (by omega) | exact own_dr (own_empty (by omega)) 1
      rw [← hV2] at hHeld ⊢
      clear hV2 hk
      have hnw := hnw.keep (Nat.le_refl _) bV2
      refine wpAnyH_ready (rs := [5]) (by kernel_rfl) (by simp) ?_
      refine AllReadyH.cons rfl (fun K hK => ?_) AllReadyH.nil
      refine step_append_rowsn rfl _ _ rfl w3.heap.size (.slice (some ⟨V7.heap.size, 0, none⟩) 0 0) 0 [] (by first | rfl | (simp; done)) R l k Z (by first | rfl | (simp; done)) hoe (HZ3.out.row.keep (Nat.le_refl _) hHeld.2) HLZ.out HLK.out HRN.out (by have := hl5; omega) (by omega) ?_
      intro v5 w5 ho5 hg5 hd5
      rw [Nat.zero_add, List.nil_append] at ho5
      obtain ⟨A5, c5, rfl⟩ := own_is ho5
      have hb5 : Below w3.heap.size w3 w5 := hHeld.2.trans (grown_below4 hoe hg5 (by omega))
      have hz5 := hg5.size
      refine hK.out _ _ ⟨HC3.out _ hb5, hb5⟩ (fun hHeld => ?_)
      clear hK K
      (try simp only [Act.put, List.setIfInBounds_toArray, List.set_cons_zero, List.set_cons_succ])
      have hnw := row_grown0 hnw hg5 (show (Value.slice (some ⟨V7.heap.size, 0, none⟩) 0 0).ownBlock ≠ some w3.heap.size from fun e => by have e2 : V7.heap.size = w3.heap.size := Option.some.inj e; omega)
      refine wpAnyH_ready (rs := [8]) (by kernel_rfl) (by simp) ?_
      refine AllReadyH.cons rfl (fun K hK => ?_) AllReadyH.nil
      refine step_append_at rfl _ _ 46 rfl w3.heap.size 59 i0 (.agg #[.int .i64 0, .slice none 0 0, .int .i64 0, .slice none 0 0]) 4 64 Tryz.underlying46 hi0 hz0 hz1 hz2 rfl (by decide) (.slice A5 l c5) l (cellsR Z) (by first | rfl | (simp; done)) ho5 ⟨w3.heap.size, 0, none⟩ 1 1 (encR z) (by first | rfl | (simp; done)) rfl hnw.at' (by intro u hu; simp [encR] at hu; rcases hu with rfl | rfl | rfl | rfl <;> rfl) (by unfold maxLen; omega) (by omega) (by omega) ?_
      intro v8 w8 ho8 hg8 hd8
      have HO8 := Lib.hid (show w8.ownsRow w3.heap.size 59 4 v8 (l + 1) (cellsR (Z ++ [z])) by rw [cellsR_app]; simpa [cellsR] using ho8)
      obtain ⟨hl8, A8, c8, rfl, hr8, hc8, -, hn8⟩ := own_sliceR HO8.out
      have hb8 : Below w3.heap.size w3 w8 := hHeld.2.trans (grown_below4 ho5 hg8 (by omega))
      have HRC := Lib.hid (show RowsC w8 A8 (Z ++ [z]) from ⟨hr8, fun y hy => by
  rcases List.mem_append.1 hy with h1 | h1
  · exact (HZ3.out.good y h1).keep hb8
  · rw [List.mem_singleton.1 h1]; exact HGZ.out.keep hb8⟩)
      refine hK.out _ _ ⟨HC3.out _ hb8, hb8⟩ (fun hHeld => ?_)
      clear hK K
      (try simp only [Act.put, List.setIfInBounds_toArray, List.set_cons_zero, List.set_cons_succ])
      clear ho8 hg8 hd8 hr8 hl8 hc8 hn8 HO8 ho5 hnw
      refine wpAnyH_ready (rs := [9]) (by kernel_rfl) (by simp) ?_
      refine AllReadyH.cons rfl (fun K hK => ?_) AllReadyH.nil
      go_simp
      (go_at_call 49; refine (reffold_any A8 (l + 1) c8 M.length L.length (Z ++ [z]) w8 HRC.out (by rw [List.length_append, HLZ.out]; rfl) (by omega) HQQ.out).mono ?_; rintro e w9 ⟨B9, O9, c9, x9, rfl, hf9, hr9, hc9, hb9⟩)
      have HF9 := Lib.hid hf9
      clear hf9
      have hk := bthen hb8 hb9
      refine hK.out _ _ (⟨HC3.out _ hk, hk⟩) (fun hHeld => ?_)
      clear hK K
      (try simp only [Act.put, List.setIfInBounds_toArray, List.set_cons_zero, List.set_cons_succ])
      refine take_want (i := 10) (v := ?v10k9) rfl (by kernel_rfl) (by kernel_rfl) (by kernel_rfl) (fun _ _ _ h => h) (by rfl) ?y10k9 (by assumption) ?r10k9
      case y10k9 => (intro w hSw; go_simp; all_goals with_reducible rfl)
      (try simp only [Act.put, List.setIfInBounds_toArray, List.set_cons_zero, List.set_cons_succ])
      refine take_want (i := 11) (v := ?v11k9) rfl (by kernel_rfl) (by kernel_rfl) (by kernel_rfl) (fun _ _ _ h => h) (by rfl) ?y11k9 (by assumption) ?r11k9
      case y11k9 => (intro w hSw; go_simp; all_goals with_reducible rfl)
      (try simp only [Act.put, List.setIfInBounds_toArray, List.set_cons_zero, List.set_cons_succ])
      refine take_want (i := 12) (v := ?v12k9) rfl (by kernel_rfl) (by kernel_rfl) (by kernel_rfl) (fun _ _ _ h => h) (by rfl) ?y12k9 (by assumption) ?r12k9
      case y12k9 => (intro w hSw; go_simp; all_goals with_reducible rfl)
      (try simp only [Act.put, List.setIfInBounds_toArray, List.set_cons_zero, List.set_cons_succ])
      refine take_want (i := 13) (v := ?v13k9) rfl (by kernel_rfl) (by kernel_rfl) (by kernel_rfl) (fun _ _ _ h => h) (by rfl) ?y13k9 (by assumption) ?r13k9
      case y13k9 => (intro w hSw; go_simp; all_goals with_reducible rfl)
      (try simp only [Act.put, List.setIfInBounds_toArray, List.set_cons_zero, List.set_cons_succ])
      refine take_want (i := 14) (v := ?v14k9) rfl (by kernel_rfl) (by kernel_rfl) (by kernel_rfl) (fun _ _ _ h => h) (by rfl) ?y14k9 (by assumption) ?r14k9
      case y14k9 => (intro w hSw; go_simp; all_goals with_reducible rfl)
      (try simp only [Act.put, List.setIfInBounds_toArray, List.set_cons_zero, List.set_cons_succ])
      refine wpAnyH_done (by kernel_rfl) ?_ _
      go_wp2_with fail
      go_meet
      exact ⟨B9, O9, c9, x9, rfl, rfl, HF9, Lib.hid hr9, Lib.hid hc9, Lib.hid hk⟩
  case rest =>
  obtain ⟨B9, O9, c9, x9, rfl, rfl, HF9, HRC9, HC9, HB9⟩ := hcut
  obtain ⟨w9, hw9⟩ : ∃ W, W = wc := ⟨_, rfl⟩
  subst hw9
  have hins : insK V (rowX t g D X) = (O9.map Prod.snd, x9) := by
    have h := HF9.out
    rw [List.map_append, HZV.out, List.map_singleton, HZ.out] at h
    rw [← refF_more HST.out]; exact h
  have HBW9 := Lib.hid (bthen HBA.out HB9.out)
  obtain ⟨⟨q0, q1, q2, q3⟩, -⟩ := HC3.out w9 HB9.out
  have HD9 := Lib.hid (HDB3.out.grown (grown_none HB9.out) (by simp))
  have qf := HD9.out.frozen 3
  by_cases hx0 : x9 = 0
  case neg =>
    have z1 : (x9 != 0) = true := by rw [bne_iff_ne]; exact hx0
    have ha : addR V 0 (rowX t g D X) = (x9, V) := by unfold addR; rw [if_pos rfl, hins, if_neg hx0]
    have HA := Lib.hid ha
    clear ha hx0 hins
    go_wp2_with fail
    go_ret
    exact ⟨by rw [HA.out]; rfl, by rw [HA.out]; exact HI.out.keep HBW9.out, Near.of HBW9.out (Nat.le_refl _)⟩
  case pos =>
    subst hx0
    have ha : addR V 0 (rowX t g D X) = (0, O9.map Prod.snd) := by unfold addR; rw [if_pos rfl, hins, if_pos rfl]
    have HA := Lib.hid ha
    clear ha hins
    go_wp2_with fail
    go_ret
    refine ⟨by rw [HA.out]; rfl, ?_, Near.set (Near.of HBW9.out (Nat.le_refl _)) (.inl rfl) _⟩
    rw [HA.out]
    refine ⟨⟨sA, sn, sc, sE, sm, sd, B9, c9, O9, ?_, HLN.out, HLM.out, by rw [List.length_map]; exact HC9.out.1, HC9.out.2, rfl, rowsc_set HRC9.out HD9.out⟩, hlx⟩
    have h := HD9.out.set_ 3 (.slice B9 O9.length c9)
    simp at h
    simpa using h
end Go.Proofs.YtmmeekmiildliaaGreatDoor
