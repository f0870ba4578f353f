/- What lists are gone through (7). -/
import Derived.Test.YtbccjkjibffbkaaKH
import Derived.Test.YtbccjkjibffbkaaMM
namespace Go.Proofs.Ytbccjkjibffbkaa
open Go.RowKit Go.Shelf
set_option linter.unusedSimpArgs false
set_option linter.unusedVariables false
/-- A schema in memory, whatever its sizes. -/
structure Sch (w : World) (A B : Option Addr) (n c m d : Nat) (L M : List ByteArray) : Prop where
  a : Row w A (texts L)
  b : Row w B (texts M)
  ln : n = L.length
  lm : m = M.length
  nc : n ≤ c
  md : m ≤ d
  an : A = none → c = 0
  bn : B = none → d = 0
  ls : ∀ s ∈ L, s.size ≤ 9223372036854775807
  ms : ∀ s ∈ M, s.size ≤ 9223372036854775807
  n2 : n ≤ 9223372036854775807
  m2 : m ≤ 9223372036854775807
theorem Sch.keep {w w' : World} {A B : Option Addr} {n c m d : Nat} {L M : List ByteArray} (h : Sch w A B n c m d L M) (hb : Below w.heap.size w w') : Sch w' A B n c m d L M := { h with a := h.a.keep (Nat.le_refl _) hb, b := h.b.keep (Nat.le_refl _) hb }
/-- A list in memory, whatever its rows' sizes. -/
structure Le0 (w : World) (x : Le) : Prop where
  row : Row w x.A (cellsR x.Z)
  good : ∀ z ∈ x.Z, Good0 w z
  len : x.n = x.Z.length
  cap : x.n ≤ x.c
  max : x.c ≤ 9223372036854775807
  nil : x.A = none → x.c = 0
  sz : ∀ z ∈ x.Z, ∀ s ∈ z.2.dims, s.size ≤ 9223372036854775807
theorem Le0.keep {w w' : World} {x : Le} (h : Le0 w x) (hb : Below w.heap.size w w') : Le0 w' x := { h with row := h.row.keep (Nat.le_refl _) hb, good := fun z hz => (h.good z hz).keep hb }
structure Ls0 (w : World) (A : Option Addr) (L : List Le) : Prop where
  row : Row w A (L.map encE)
  ok : ∀ x ∈ L, Le0 w x
theorem Ls0.keep {w w' : World} {A : Option Addr} {L : List Le} (h : Ls0 w A L) (hb : Below w.heap.size w w') : Ls0 w' A L := ⟨h.row.keep (Nat.le_refl _) hb, fun x hx => (h.ok x hx).keep hb⟩
theorem Ls0.at {w : World} {A : Option Addr} {L : List Le} {k : Nat} (h : Ls0 w A L) (hk : k < L.length) : ∃ b off, A = some ⟨b, off, none⟩ ∧ w.cell? ⟨b, off + k, none⟩ = some (.slice L[k].A L[k].n L[k].c) ∧ Le0 w L[k] := by
  rcases h.row with h0 | ⟨b, off, rfl, hc⟩
  · have : (L.map encE).length = 0 := by rw [h0]; rfl
    rw [List.length_map] at this; omega
  · refine ⟨b, off, rfl, hc k _ ?_, h.ok _ (List.getElem_mem _)⟩
    rw [List.getElem?_map, List.getElem?_eq_getElem hk]; rfl
def fitsL (N M : List ByteArray) (L : List Le) : Prop := (∀ x ∈ L, fitsRows N M (x.Z.map Prod.snd)) ∧ L.length ≤ 8 ∧ (L.map Le.Z).flatten.length ≤ 200 ∧ fitsRows N M []
theorem rowok_q {p q : Nat} {a : RV} (h : rowOk p q a.t a.count a.dims a.aggs) : RowQ q p a :=
  ⟨⟨by have := h.2.2.2.2.1; omega, h.2.2.2.2.2.1, h.2.1, h.2.2.2.2.2.2.2⟩, h.1⟩
theorem fitsL_q {N M : List ByteArray} {L : List Le} (h : fitsL N M L) : ∀ z ∈ (L.map Le.Z).flatten, RowQ M.length N.length z.2 := fun z hz => by
  obtain ⟨x, hx, hzx⟩ := flat_mem hz
  exact rowok_q ((h.1 x hx).2.2.2.2 z.2 (List.mem_map.2 ⟨z, hzx, rfl⟩))
theorem fitsL_in {N M : List ByteArray} {L : List Le} {w : World} {A : Option Addr} (h : fitsL N M L) (hl : Ls0 w A L) : LsIn w A L := by
  refine ⟨hl.row, fun x hx => ?_, by have := h.2.1; omega⟩
  have h0 := hl.ok x hx
  have hf := h.1 x hx
  refine ⟨⟨h0.row, fun z hz => ?_⟩, h0.len, h0.cap, h0.max, h0.nil⟩
  have hr := hf.2.2.2.2 z.2 (List.mem_map.2 ⟨z, hz, rfl⟩)
  exact (h0.good z hz).good (by rw [hr.1]; have := hf.1.1; omega) (by rw [hr.2.1]; have := hf.2.1.1; omega)
theorem fits_row {w : World} {A B : Option Addr} {n c m d : Nat} {N M : List ByteArray} (hs : Sch w A B n c m d N M) {x : Le} (h : Le0 w x) (r : Bool) (hr : r = true ↔ fitsRows N M (x.Z.map Prod.snd)) :
    Calls Try.prog 15 #[.agg #[.slice A n c, .slice B m d], .slice x.A x.n x.c] w fun e w' => e = .returned (.bool r) ∧ Below w.heap.size w w' :=
  fitsrows_any A B x.A n c m d x.n x.c N M x.Z w hs.a hs.b h.row h.good hs.ln hs.lm h.len hs.nc hs.md hs.an hs.bn hs.ls hs.ms hs.n2 hs.m2 (Nat.le_trans h.cap h.max) h.sz r hr
/-- What the drawn region looks at. -/
structure Sx (g b p : Nat) (x0 x1 y : Value) (W : World) : Prop where
  s0 : W.cell? ⟨g, 0, none⟩ = some x0
  s1 : W.cell? ⟨g, 1, none⟩ = some x1
  x : W.cell? ⟨b, p, none⟩ = some y
theorem Sx.keep {g b p : Nat} {x0 x1 y : Value} {W W' : World} (h : Sx g b p x0 x1 y W) (hb : Below W.heap.size W W') : Sx g b p x0 x1 y W' := ⟨cell_later hb h.s0, cell_later hb h.s1, cell_later hb h.x⟩
set_option maxRecDepth 100000 in
set_option maxHeartbeats 16000000 in
theorem fitsl_any (A B C : Option Addr) (n c m d k cap : Nat) (N M : List ByteArray) (L : List Le) (w : World) (hs : Sch w A B n c m d N M) (hL : Ls0 w C L) (hk : k = L.length) (hk2 : k ≤ 9223372036854775807) (r : Bool) (hr : r = true ↔ fitsL N M L) :
    Calls Try.prog 7 #[.agg #[.slice A n c, .slice B m d], .slice C k cap] w fun e w' => e = .returned (.bool r) ∧ Below w.heap.size w w' := by
  obtain ⟨W1, hW1⟩ : ∃ W1, W1 = w.alloc (.cells #[.slice A n c, .slice B m d] 24) := ⟨_, rfl⟩
  have hb1 : Below w.heap.size w W1 := by rw [hW1]; exact bpush (Below.refl _ _) _
  have s0 : W1.cell? ⟨w.heap.size, 0, none⟩ = some (.slice A n c) := by rw [hW1]; exact cell_made rfl rfl
  have s1 : W1.cell? ⟨w.heap.size, 1, none⟩ = some (.slice B m d) := by rw [hW1]; exact cell_made rfl rfl
  have HB1 := Lib.hid hb1
  have HSC := Lib.hid (hs.keep hb1)
  have HLS := Lib.hid (hL.keep hb1)
  have HK := Lib.hid hk
  have HR := Lib.hid hr
  have HW1 := Lib.hid hW1
  have HS0 := Lib.hid s0
  have HS1 := Lib.hid s1
  obtain ⟨sb, hsb⟩ : ∃ sb, sb = w.heap.size := ⟨_, rfl⟩
  have HSB := Lib.hid hsb
  clear hs hL hk hr hW1 hb1 s0 s1 hsb
  go_enter Try.func7, Try.ntmps7
  go_upto_region 3 with fail
  rw [← HW1.out, ← HSB.out]
  rw [← HSB.out] at HS0 HS1
  go_loopw [5, 6] (fun v5 v6 wr => ∃ i m' : Nat, v5 = .int .i64 m' ∧ v6 = .int .i64 i ∧ i ≤ k ∧ i ≤ 8 ∧ m' ≤ 200 ∧ Hid (m' = ((L.take i).map Le.Z).flatten.length) ∧ Hid (Below W1.heap.size W1 wr) ∧ Hid (∀ x ∈ L.take i, fitsRows N M (x.Z.map Prod.snd))) (fun _ v6 _ => k - (intOf v6).toNat)
  case atStart => exact ⟨0, 0, rfl, rfl, Nat.zero_le _, Nat.zero_le _, Nat.zero_le _, Lib.hid rfl, Lib.hid (Below.refl _ _), Lib.hid (fun x hx => absurd hx List.not_mem_nil)⟩
  case round =>
    obtain ⟨i, m', rfl, rfl, hik, hi8, hm2, HM, HB, HF⟩ := hrel
    obtain ⟨wo, rfl⟩ : ∃ wo : World, wo = wr := ⟨_, rfl⟩
    by_cases hlt : i < k
    case neg =>
      have hki : ¬ ((i : Int) < (k : Int)) := by omega
      have hE : L.take i = L := List.take_of_length_le (by have := HK.out; omega)
      have HFL := Lib.hid (show r = true ↔ fitsRows N M ([] : List RV) by
        rw [HR.out]
        have h1 := HF.out
        have h2 := HM.out
        rw [hE] at h1 h2
        exact ⟨fun h => h.2.2.2, fun h => ⟨h1, by have := HK.out; omega, by omega, h⟩⟩)
      have HC := Lib.hid (fits_row (x := ⟨none, 0, 0, []⟩) (HSC.out.keep HB.out) ⟨.inl rfl, fun z hz => absurd hz List.not_mem_nil, rfl, Nat.le_refl _, (by show (0 : Nat) ≤ _; omega), fun _ => rfl, fun z hz => absurd hz List.not_mem_nil⟩ r HFL.out)
      have c0 := cell_later HB.out HS0.out
      have c1 := cell_later HB.out HS1.out
      clear hlt hE
      go_wp2_with (go_at_call 15; refine HC.out.mono ?_; rintro e w2 ⟨rfl, hb⟩; have HB2 := Lib.hid hb; clear hb)
      go_ret
      exact ⟨rfl, HB1.out.trans ((HB.out.trans (HB2.out.mono HB.out.size)).mono HB1.out.size)⟩
    case pos =>
    have hkz0 : (0 : Int) ≤ (i : Int) := by omega
    have hkz1 : (i : Int) < (k : Int) := by omega
    have hkz : i < L.length := by have := HK.out; omega
    obtain ⟨b, off, hAe, c0, hok⟩ := (HLS.out.keep HB.out).at hkz
    obtain ⟨x, hx⟩ : ∃ x, x = L[i] := ⟨_, rfl⟩
    rw [← hx] at c0 hok
    obtain ⟨q, hq⟩ := bool_of (fitsRows N M (x.Z.map Prod.snd))
    have HC := Lib.hid (fun (W : World) (hW : Below wo.heap.size wo W) => fits_row ((HSC.out.keep HB.out).keep hW) (hok.keep hW) q hq)
    have HXL := Lib.hid (show x ∈ L by rw [hx]; exact List.getElem_mem hkz)
    have HTK := Lib.hid (show ∀ y ∈ L.take (i + 1), y ∈ L.take i ∨ y = x from fun y hy => by
      rw [take_snoc _ _ hkz] at hy
      rcases List.mem_append.1 hy with h | h
      · exact .inl h
      · exact .inr (by rw [List.mem_singleton.1 h, hx]))
    have HMS := Lib.hid (show ((L.take (i + 1)).map Le.Z).flatten = ((L.take i).map Le.Z).flatten ++ x.Z by rw [flat_take hkz, hx])
    have HQ := Lib.hid hq
    have HLN := Lib.hid (show x.n = x.Z.length from hok.len)
    have HXN := Lib.hid (show x.n ≤ 9223372036854775807 from Nat.le_trans hok.cap hok.max)
    have HSX := Lib.hid (show Sx sb b (off + i) (.slice A n c) (.slice B m d) (.slice x.A x.n x.c) wo from ⟨cell_later HB.out HS0.out, cell_later HB.out HS1.out, c0⟩)
    subst hAe
    clear hlt hx hok hkz hq c0
    go_upto_region 5 with fail
    refine wp_region_held_drew (S := Sx sb b (off + i) (.slice A n c) (.slice B m d) (.slice x.A x.n x.c)) (by kernel_rfl) (HSX.out.keep (below_drewN (Below.refl _ _) 1)) ?_
    intro hHeld
    refine take_want (i := 0) (v := ?va0) rfl (by kernel_rfl) (by kernel_rfl) (by kernel_rfl) (fun _ _ _ h => h) (by rfl) ?ya0 (by assumption) ?ra0
    case ya0 => (intro w hSw; obtain ⟨s0, s1, xc⟩ := hSw; go_simp; all_goals with_reducible rfl)
    (try simp only [Act.put, List.setIfInBounds_toArray, List.set_cons_zero, List.set_cons_succ])
    refine take_want (i := 1) (v := ?va1) rfl (by kernel_rfl) (by kernel_rfl) (by kernel_rfl) (fun _ _ _ h => h) (by rfl) ?ya1 (by assumption) ?ra1
    case ya1 => (intro w hSw; obtain ⟨s0, s1, xc⟩ := hSw; go_simp; all_goals with_reducible rfl)
    (try simp only [Act.put, List.setIfInBounds_toArray, List.set_cons_zero, List.set_cons_succ])
    refine take_want (i := 2) (v := ?va2) rfl (by kernel_rfl) (by kernel_rfl) (by kernel_rfl) (fun _ _ _ h => h) (by rfl) ?ya2 (by assumption) ?ra2
    case ya2 => (intro w hSw; obtain ⟨s0, s1, xc⟩ := hSw; go_simp; all_goals with_reducible rfl)
    (try simp only [Act.put, List.setIfInBounds_toArray, List.set_cons_zero, List.set_cons_succ])
    refine take_want (i := 3) (v := ?va3) rfl (by kernel_rfl) (by kernel_rfl) (by kernel_rfl) (fun _ _ _ h => h) (by rfl) ?ya3 (by assumption) ?ra3
    case ya3 => (intro w hSw; obtain ⟨s0, s1, xc⟩ := hSw; go_simp; all_goals with_reducible rfl)
    (try simp only [Act.put, List.setIfInBounds_toArray, List.set_cons_zero, List.set_cons_succ])
    refine take_want (i := 4) (v := ?va4) rfl (by kernel_rfl) (by kernel_rfl) (by kernel_rfl) (fun _ _ _ h => h) (by rfl) ?ya4 (by assumption) ?ra4
    case ya4 => (intro w hSw; obtain ⟨s0, s1, xc⟩ := hSw; go_simp; all_goals with_reducible rfl)
    (try simp only [Act.put, List.setIfInBounds_toArray, List.set_cons_zero, List.set_cons_succ])
    refine wpAnyH_ready (rs := [5]) (by kernel_rfl) (by simp) ?_
    refine AllReadyH.cons rfl (fun K hK => ?_) AllReadyH.nil
    go_simp
    (go_at_call 15; refine (HC.out _ (below_drewN (Below.refl _ _) 1)).mono ?_; rintro e w2 ⟨rfl, hb⟩)
    refine hK.out _ _ (hHeld.keep hb) (fun hHeld => ?_)
    clear hK K
    (try simp only [Act.put, List.setIfInBounds_toArray, List.set_cons_zero, List.set_cons_succ])
    have HB2 := Lib.hid (show Below wo.heap.size wo w2 from (below_drewN (Below.refl _ _) 1).trans (hb.mono (Nat.le_refl _)))
    clear hb HC
    refine take_want (i := 6) (v := ?vb6) rfl (by kernel_rfl) (by kernel_rfl) (by kernel_rfl) (fun _ _ _ h => h) (by rfl) ?yb6 (by assumption) ?rb6
    case yb6 => (intro w hSw; go_simp; all_goals with_reducible rfl)
    (try simp only [Act.put, List.setIfInBounds_toArray, List.set_cons_zero, List.set_cons_succ])
    have c0 := hHeld.x
    clear hHeld
    refine wpAnyH_done (by kernel_rfl) ?_ _
    have HBE := Lib.hid (show Below w.heap.size w w2 from HB1.out.trans ((HB.out.trans (HB2.out.mono HB.out.size)).mono HB1.out.size))
    cases q
    · have HRF := Lib.hid (show r = false by
        cases r with
        | false => rfl
        | true => have h := HQ.out.2 ((HR.out.1 rfl).1 x HXL.out); cases h)
      go_wp2_with fail
      go_ret
      exact ⟨by rw [HRF.out]; rfl, HBE.out⟩
    · have hx120 : x.n ≤ 120 := by have := (HQ.out.1 rfl).2.2.1; rw [List.length_map] at this; have := HLN.out; omega
      have HMN := Lib.hid (show m' + x.n = ((L.take (i + 1)).map Le.Z).flatten.length by rw [HMS.out, List.length_append, ← HM.out, HLN.out])
      by_cases h8 : i = 8
      · have HRF := Lib.hid (show r = false by
          cases r with
          | false => rfl
          | true => have h := (HR.out.1 rfl).2.1; have := HK.out; omega)
        subst h8
        go_wp2_with fail
        go_ret
        exact ⟨by rw [HRF.out]; rfl, HBE.out⟩
      · have hi8' : ¬ ((i : Int) = 8) := by omega
        by_cases h200 : 200 < m' + x.n
        · have HRF := Lib.hid (show r = false by
            cases r with
            | false => rfl
            | true =>
              have h := (HR.out.1 rfl).2.2.1
              have h2 := flat_len (L := L) (k := i + 1)
              rw [← HMN.out] at h2; omega)
          have hz1 : (200 : Int) < (m' : Int) + (x.n : Int) := by omega
          clear h200 h8
          go_wp2_with fail
          go_ret
          exact ⟨by rw [HRF.out]; rfl, HBE.out⟩
        · have hz1 : ¬ (200 : Int) < (m' : Int) + (x.n : Int) := by omega
          have HFN := Lib.hid (show ∀ y ∈ L.take (i + 1), fitsRows N M (y.Z.map Prod.snd) from fun y hy => (HTK.out y hy).elim (HF.out y) (fun h => by rw [h]; exact HQ.out.1 rfl))
          have hm3 : m' + x.n ≤ 200 := by omega
          have hi9 : i + 1 ≤ 8 := by omega
          clear h200 h8
          go_wp2_with fail
          go_roundw
          case rel => exact ⟨i + 1, m' + x.n, by go_num, by go_num, by omega, hi9, hm3, HMN, Lib.hid (HB.out.trans (HB2.out.mono HB.out.size)), HFN⟩
          case measure => simp [intOf]; omega
end Go.Proofs.Ytbccjkjibffbkaa
