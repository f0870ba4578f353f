import Derived.Test.YtdgaemgilcbdiaaF
namespace Go.Proofs.Ytdgaemgilcbdiaa
open Go.RowKit
set_option linter.unusedSimpArgs false
def stepA (p : A3 × Int) (n : Int) : A3 × Int := if p.2 = 0 then (if fit1 n = true then joinA p.1 ⟨n, n, n⟩ else (p.1, 121)) else p
def finA (p : A3 × Int) : A3 × Int := if p.2 = 0 then (p.1, 0) else (A3.zero, p.2)
def allA (first : Int) (zs : List Int) : A3 × Int := zs.foldl stepA (oneA first)
theorem step_bad {p : A3 × Int} {n : Int} (h : ¬ p.2 = 0) : stepA p n = p := by simp [stepA, h]
theorem fold_bad {p : A3 × Int} (zs : List Int) (h : ¬ p.2 = 0) : zs.foldl stepA p = p := by
  induction zs with
  | nil => rfl
  | cons z zs ih => rw [List.foldl_cons, step_bad h]; exact ih
theorem take_snoc {α : Type} (l : List α) (k : Nat) (h : k < l.length) : l.take (k + 1) = l.take k ++ [l[k]] := by
  rw [List.take_succ_eq_append_getElem h]
def uptoA (first : Int) (zs : List Int) (k : Nat) : A3 × Int := (zs.take k).foldl stepA (oneA first)
theorem upto_succ (first : Int) (zs : List Int) (k : Nat) (h : k < zs.length) : uptoA first zs (k + 1) = stepA (uptoA first zs k) zs[k] := by
  unfold uptoA; rw [take_snoc _ _ h, List.foldl_append]; rfl
theorem upto_all (first : Int) (zs : List Int) (k : Nat) (h : zs.length ≤ k) : uptoA first zs k = allA first zs := by
  unfold uptoA allA; rw [List.take_of_length_le h]
theorem upto_bad (first : Int) (zs : List Int) (k : Nat) (h : ¬ (uptoA first zs k).2 = 0) : allA first zs = uptoA first zs k := by
  unfold allA
  conv => lhs; rw [← List.take_append_drop k zs, List.foldl_append]
  exact fold_bad _ h

/-- A box that holds an agg. -/
def Box3 (w : World) (b : Nat) (r : A3) : Prop :=
  w.cell? ⟨b, 0, none⟩ = some (.int .i64 r.s) ∧ w.cell? ⟨b, 1, none⟩ = some (.int .i64 r.mn) ∧ w.cell? ⟨b, 2, none⟩ = some (.int .i64 r.mx) ∧
    ∀ o, w.frozen? ⟨b, o, none⟩ = false
theorem Box3.lt {w : World} {b : Nat} {r : A3} (h : Box3 w b r) : b < w.heap.size := lt_of_cell h.1
theorem Box3.keep {w w' : World} {b : Nat} {r : A3} (h : Box3 w b r) (hb : Below w.heap.size w w') : Box3 w' b r := by
  obtain ⟨hc, hf⟩ := bcell hb
  have hl := h.lt
  obtain ⟨h0, h1, h2, h3⟩ := h
  exact ⟨(hc _ _ hl).trans h0, (hc _ _ hl).trans h1, (hc _ _ hl).trans h2, fun o => (hf _ _ hl).trans (h3 o)⟩
theorem Box3.alloc {w : World} {b : Nat} {r : A3} (h : Box3 w b r) (o : Obj) : Box3 (w.alloc o) b r := h.keep (bpush (Below.refl _ _) o)
theorem Box3.new (w : World) (t : TypeId) (s mn mx : Int) : Box3 (w.alloc (.cells #[.int .i64 s, .int .i64 mn, .int .i64 mx] t)) w.heap.size ⟨s, mn, mx⟩ := by
  refine ⟨?_, ?_, ?_, fun o => ?_⟩ <;> simp
theorem Box3.far {w : World} {b : Nat} {r : A3} (h : Box3 w b r) {p : Addr} (hp : p.block ≠ b) (v : Value) : Box3 (w.setCell p v) b r := by
  obtain ⟨h0, h1, h2, h3⟩ := h
  have e : ∀ o, (w.setCell p v).cell? ⟨b, o, none⟩ = w.cell? ⟨b, o, none⟩ := fun o => World.cell?_setCell_other w p _ v (fun e => hp (by rw [e]))
  exact ⟨(e _).trans h0, (e _).trans h1, (e _).trans h2, fun o => by rw [← h3 o]; simp⟩
theorem Box3.put {w : World} {b : Nat} {r : A3} (h : Box3 w b r) (s mn mx : Int) :
    Box3 (((w.setCell ⟨b, 0, none⟩ (.int .i64 s)).setCell ⟨b, 1, none⟩ (.int .i64 mn)).setCell ⟨b, 2, none⟩ (.int .i64 mx)) b ⟨s, mn, mx⟩ := by
  obtain ⟨h0, h1, h2, h3⟩ := h
  refine ⟨?_, ?_, ?_, fun o => ?_⟩ <;> go_simp

theorem one_all {n : Int} {r : A3 × Int} (h : oneA n = r) (w : World) : Calls Try.prog 14 #[.int .i64 n] w (Ans r w) := by subst h; exact one_any n w
theorem join_all {a b : A3} {r : A3 × Int} (h : joinA a b = r) (w : World) :
    Calls Try.prog 8 #[.agg #[.int .i64 a.s, .int .i64 a.mn, .int .i64 a.mx], .agg #[.int .i64 b.s, .int .i64 b.mn, .int .i64 b.mx]] w (Ans r w) := by subst h; exact join_any a b w
set_option maxHeartbeats 800000 in
theorem joinl_any (first : Int) (A : Option Addr) (n c : Nat) (zs : List Int) (w : World) (hA : Row w A (zs.map (Value.int .i64))) (hn : n ≤ 9223372036854775807) (hz : n = zs.length) :
    Calls Try.prog 18 #[.int .i64 first, .slice A n c] w (Ans (finA (allA first zs)) w) := by
  have HZ := Lib.hid hz
  clear hz
  obtain ⟨⟨r0, c0⟩, h0⟩ : ∃ p, oneA first = p := ⟨_, rfl⟩
  have H0 := Lib.hid h0
  clear h0
  go_enter Try.func18, Try.ntmps18
  go_wp2_with fail
  refine (one_all H0.out _).mono ?_
  rintro e w1 ⟨rfl, hb⟩
  have hX : Box3 w1 w.heap.size A3.zero := (Box3.new w 23 0 0 0).keep hb
  have hB1 : Below w.heap.size w w1 := bthen (bpush (Below.refl _ _) _) hb
  clear hb
  go_wp2_with fail
  obtain ⟨B, hB⟩ : ∃ B, B = w1.heap.size := ⟨_, rfl⟩
  rw [← hB]
  have hX2 : Box3 (w1.alloc (.cells #[.int .i64 r0.s, .int .i64 r0.mn, .int .i64 r0.mx] 23)) B r0 := by rw [hB]; exact Box3.new _ _ _ _ _
  have hBw : w.heap.size < B := by rw [hB]; exact hX.lt
  have hwb : Below w.heap.size w (w1.alloc (.cells #[.int .i64 r0.s, .int .i64 r0.mn, .int .i64 r0.mx] 23)) := bpush hB1 _
  have hX1 : Box3 (w1.alloc (.cells #[.int .i64 r0.s, .int .i64 r0.mn, .int .i64 r0.mx] 23)) w.heap.size A3.zero := hX.alloc _
  clear hX hB1 hB
  go_loopw [7, 10, 18] (fun e7 _ i wr => ∃ k : Nat, k ≤ n ∧ i = .int .i64 k ∧ ∃ (r : A3) (c : Int), Hid (uptoA first zs k = (r, c)) ∧ e7 = .int .i64 c ∧ Box3 wr B r ∧ Box3 wr w.heap.size A3.zero ∧ Below w.heap.size w wr)
    (fun _ _ i _ => n - (intOf i).toNat)
  case atStart => exact ⟨0, Nat.zero_le _, rfl, r0, c0, by show uptoA first zs 0 = _; unfold uptoA; simpa using H0.out, rfl, hX2, hX1, hwb⟩
  case round =>
    obtain ⟨k, hk, rfl, r, c, HU, rfl, hP, hQ, hW⟩ := hrel
    by_cases hlt : k < n
    · have hkz : k < zs.length := by have := HZ.out; omega
      obtain ⟨z, hz⟩ : ∃ z, z = zs[k] := ⟨_, rfl⟩
      have Hz := Lib.hid hz
      obtain ⟨b, off, hA', hcell⟩ : ∃ b off, A = some ⟨b, off, none⟩ ∧ wr.cell? ⟨b, off + k, none⟩ = some (.int .i64 z) := by
        rcases hA with hA | ⟨b, off, rfl, hc⟩
        · simp at hA; subst hA; simp at hkz
        · have h2 := hc k (.int .i64 zs[k]) (by simp [hkz])
          exact ⟨b, off, rfl, by rw [hz]; exact (hW.cell (p := ⟨b, off + k, none⟩) (lt_of_cell h2)).trans h2⟩
      clear hz
      subst hA'
      by_cases hc : c = 0
      · subst hc
        have hU := HU.out
        have hsucc := upto_succ first zs k hkz
        rw [hU] at hsucc
        cases hf : fit1 z
        · have Hn := Lib.hid (show uptoA first zs (k + 1) = (r, 121) by rw [hsucc, ← Hz.out]; simp [stepA, hf])
          have H1 := Lib.hid (oneA_no hf)
          clear hf hsucc hU HU
          obtain ⟨p0, p1, p2, pf⟩ := hP
          go_wp2_with fail
          refine (one_all H1.out _).mono ?_
          rintro e w2 ⟨rfl, hb⟩
          have hX : Box3 w2 wr.heap.size A3.zero := (Box3.new wr 23 0 0 0).keep hb
          have hB2 : Below wr.heap.size wr w2 := bthen (bpush (Below.refl _ _) _) hb
          have hQ' := hQ.keep hB2
          have hP' := (show Box3 wr B r from ⟨p0, p1, p2, pf⟩).keep hB2
          have hne : wr.heap.size ≠ B := by have := lt_of_cell p0; omega
          have hne2 : wr.heap.size ≠ w.heap.size := by have := lt_of_cell hQ.1; omega
          have hwl : w.heap.size ≤ wr.heap.size := hW.size
          obtain ⟨x0, x1, x2, xf⟩ := hX
          clear hb p0 p1 p2 pf hQ
          go_wp2
          go_roundw
          case rel => exact ⟨k + 1, by omega, by go_num, r, 121, Hn, rfl, ((hP'.far hne _).far hne _).far hne _, ((hQ'.far hne2 _).far hne2 _).far hne2 _, by repeat (first | exact hW.trans (hB2.mono hwl) | refine bset ?_ hwl _)⟩
          case measure => simp [intOf]; omega
        · obtain ⟨⟨r', c'⟩, hj⟩ : ∃ p, joinA r ⟨z, z, z⟩ = p := ⟨_, rfl⟩
          have Hn := Lib.hid (show uptoA first zs (k + 1) = (r', c') by rw [hsucc, ← Hz.out]; simp [stepA, hf, hj])
          have H1 := Lib.hid (oneA_yes hf)
          have HJ := Lib.hid hj
          clear hf hsucc hU HU hj
          go_wp2_with fail
          refine (one_all H1.out _).mono ?_
          rintro e w2 ⟨rfl, hb⟩
          have hX : Box3 w2 wr.heap.size A3.zero := (Box3.new wr 23 0 0 0).keep hb
          have hB2 : Below wr.heap.size wr w2 := bthen (bpush (Below.refl _ _) _) hb
          have hQ' := hQ.keep hB2
          have hP' := hP.keep hB2
          have hne : wr.heap.size ≠ B := by have := hP.lt; omega
          have hne2 : wr.heap.size ≠ w.heap.size := by have := hQ.lt; omega
          have hne3 : B ≠ w.heap.size := by omega
          have hwl : w.heap.size ≤ wr.heap.size := hW.size
          have hX3 := hX.put z z z
          have hP3 := ((hP'.far (p := ⟨wr.heap.size, 0, none⟩) hne (.int .i64 z)).far (p := ⟨wr.heap.size, 1, none⟩) hne (.int .i64 z)).far (p := ⟨wr.heap.size, 2, none⟩) hne (.int .i64 z)
          have hQ3 := ((hQ'.far (p := ⟨wr.heap.size, 0, none⟩) hne2 (.int .i64 z)).far (p := ⟨wr.heap.size, 1, none⟩) hne2 (.int .i64 z)).far (p := ⟨wr.heap.size, 2, none⟩) hne2 (.int .i64 z)
          have hB3 : Below w.heap.size w (((w2.setCell ⟨wr.heap.size, 0, none⟩ (.int .i64 z)).setCell ⟨wr.heap.size, 1, none⟩ (.int .i64 z)).setCell ⟨wr.heap.size, 2, none⟩ (.int .i64 z)) := by
            repeat (first | exact hW.trans (hB2.mono hwl) | refine bset ?_ hwl _)
          obtain ⟨x0, x1, x2, xf⟩ := hX
          obtain ⟨y0, y1, y2, yf⟩ := hP'
          clear hb hP hQ hQ' hB2
          go_wp2_with fail
          refine (join_all HJ.out _).mono ?_
          rintro e w3 ⟨rfl, hb3⟩
          have hP4 := hP3.keep hb3
          have hQ4 := hQ3.keep hb3
          have hB4 := bthen hB3 hb3
          have hP5 := hP4.put r'.s r'.mn r'.mx
          obtain ⟨p0, p1, p2, pf⟩ := hP4
          clear hb3 hP3 hQ3 hX3 hB3
          go_wp2
          go_roundw
          case rel => exact ⟨k + 1, by omega, by go_num, r', c', Hn, rfl, hP5, ((hQ4.far hne3 _).far hne3 _).far hne3 _, by repeat (first | exact hB4 | refine bset ?_ (by omega) _)⟩
          case measure => simp [intOf]; omega
      · obtain ⟨p0, p1, p2, pf⟩ := hP
        obtain ⟨q0, q1, q2, qf⟩ := hQ
        go_wp2
        refine bodyPost_ret (v := .tuple #[.agg #[.int .i64 0, .int .i64 0, .int .i64 0], .int .i64 c]) ?_ rfl ?_
        · simp [results, Try.results18, go_sem, q0, q1, q2]
        · refine Ans.of (r' := (A3.zero, c)) ⟨rfl, by repeat (first | exact hW | refine bset ?_ (by omega) _)⟩ ?_
          have hU := HU.out
          rw [upto_bad first zs k (by rw [hU]; exact hc), hU]
          simp [finA, hc]
    · have hU := HU.out
      rw [upto_all first zs k (by have := HZ.out; omega)] at hU
      have HU' := Lib.hid hU
      clear hU HU
      obtain ⟨p0, p1, p2, pf⟩ := hP
      obtain ⟨q0, q1, q2, qf⟩ := hQ
      by_cases hc : c = 0
      · subst hc
        go_wp2
        refine bodyPost_ret (v := .tuple #[.agg #[.int .i64 r.s, .int .i64 r.mn, .int .i64 r.mx], .int .i64 0]) ?_ rfl ?_
        · simp [results, Try.results18, go_sem, q0, q1, q2]
        · refine Ans.of (r' := (r, 0)) ⟨rfl, by repeat (first | exact hW | refine bset ?_ (by omega) _)⟩ ?_
          rw [HU'.out]; simp [finA]
      · go_wp2
        refine bodyPost_ret (v := .tuple #[.agg #[.int .i64 0, .int .i64 0, .int .i64 0], .int .i64 c]) ?_ rfl ?_
        · simp [results, Try.results18, go_sem, q0, q1, q2]
        · refine Ans.of (r' := (A3.zero, c)) ⟨rfl, by repeat (first | exact hW | refine bset ?_ (by omega) _)⟩ ?_
          rw [HU'.out]; simp [finA, hc]
end Go.Proofs.Ytdgaemgilcbdiaa
