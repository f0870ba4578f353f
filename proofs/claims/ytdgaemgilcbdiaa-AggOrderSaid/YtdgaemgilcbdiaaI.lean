import Derived.Test.YtdgaemgilcbdiaaH
namespace Go.Proofs.Ytdgaemgilcbdiaa
open Go.RowKit
set_option linter.unusedSimpArgs false
def preA (l : List Int) : A3 × Int := match l with | [] => (A3.zero, 0) | z :: zs => allA z zs
theorem pre_bad (l : List Int) (k : Nat) (h : ¬ (preA (l.take k)).2 = 0) : preA l = preA (l.take k) := by
  cases l with
  | nil => simp
  | cons z zs =>
    cases k with
    | zero => simp [preA] at h
    | succ k => exact upto_bad z zs k h
theorem pre_one (l : List Int) (h : 0 < l.length) : preA (l.take 1) = oneA l[0] := by
  cases l with
  | nil => simp at h
  | cons z zs => simp [preA, allA]
theorem pre_succ (l : List Int) (k : Nat) (h : k + 1 < l.length) : preA (l.take (k + 1 + 1)) = stepA (preA (l.take (k + 1))) l[k + 1] := by
  cases l with
  | nil => simp at h
  | cons z zs => exact upto_succ z zs k (by simpa using h)
theorem allL_pre (l : List Int) (h : 0 < l.length) : allL l = finA (preA l) := by
  cases l with
  | nil => simp at h
  | cons z zs => rfl
theorem rone_all {n : Int} {r : A3 × Int} (h : oneA n = r) (w : World) : Calls Try.prog 15 #[.int .i64 n] w (Ans r w) := by subst h; exact rone_any n w
theorem rjoin_all {a b : A3} {r : A3 × Int} (h : joinA a b = r) (w : World) :
    Calls Try.prog 9 #[.agg #[.int .i64 a.s, .int .i64 a.mn, .int .i64 a.mx], .agg #[.int .i64 b.s, .int .i64 b.mn, .int .i64 b.mx]] w (Ans r w) := by subst h; exact rjoin_any a b w
set_option maxHeartbeats 1000000 in
theorem rall_any (A : Option Addr) (n c : Nat) (l : List Int) (w : World) (hA : Row w A (l.map (Value.int .i64))) (hn : n ≤ 9223372036854775807) (hz : n = l.length) :
    Calls Try.prog 11 #[.slice A n c] w (Ans (allL l) w) := by
  have HZ := Lib.hid hz
  clear hz
  go_enter Try.func11, Try.ntmps11
  go_wp2_with fail
  have hX1 : Box3 ((w.alloc (.cells #[.int .i64 0, .int .i64 0, .int .i64 0] 23)).alloc (.cells #[.int .i64 0, .int .i64 0, .int .i64 0] 23)) w.heap.size A3.zero := (Box3.new w 23 0 0 0).alloc _
  have hX2 : Box3 ((w.alloc (.cells #[.int .i64 0, .int .i64 0, .int .i64 0] 23)).alloc (.cells #[.int .i64 0, .int .i64 0, .int .i64 0] 23)) (w.heap.size + 1) A3.zero := by
    have := Box3.new (w.alloc (.cells #[.int .i64 0, .int .i64 0, .int .i64 0] 23)) 23 0 0 0
    simpa [A3.zero] using this
  go_loopw [5, 6, 7] (fun i _ _ wr => ∃ k : Nat, k ≤ n ∧ i = .int .i64 k ∧ ∃ (r : A3), Hid (preA (l.take k) = (r, 0)) ∧ Box3 wr (w.heap.size + 1) r ∧ Box3 wr w.heap.size A3.zero ∧ Below w.heap.size w wr)
    (fun i _ _ _ => n - (intOf i).toNat)
  case atStart => exact ⟨0, Nat.zero_le _, rfl, A3.zero, rfl, hX2, hX1, bpush (bpush (Below.refl _ _) _) _⟩
  case round =>
    obtain ⟨k, hk, rfl, r, HU, hP, hQ, hW⟩ := hrel
    have hwl : w.heap.size ≤ wr.heap.size := hW.size
    by_cases hlt : k < n
    · have hkz : k < l.length := by have := HZ.out; omega
      obtain ⟨z, hz⟩ : ∃ z, z = l[k] := ⟨_, rfl⟩
      have Hz := Lib.hid hz
      obtain ⟨b, off, hA', hcell⟩ : ∃ b off, A = some ⟨b, off, none⟩ ∧ wr.cell? ⟨b, off + k, none⟩ = some (.int .i64 z) := by
        rcases hA with hA | ⟨b, off, rfl, hc⟩
        · simp at hA; subst hA; simp at hkz
        · have h2 := hc k (.int .i64 l[k]) (by simp [hkz])
          exact ⟨b, off, rfl, by rw [hz]; exact (hW.cell (p := ⟨b, off + k, none⟩) (lt_of_cell h2)).trans h2⟩
      clear hz
      subst hA'
      have hU := HU.out
      cases hf : fit1 z
      · have Hn := Lib.hid (show allL l = (A3.zero, 121) by
          have hp : (preA (l.take (k + 1))).2 = 121 := by
            cases k with
            | zero => rw [pre_one l hkz, ← Hz.out, oneA_no hf]
            | succ k => rw [pre_succ l k hkz, hU, ← Hz.out]; simp [stepA, hf]
          rw [allL_pre l (by omega), pre_bad l (k + 1) (by rw [hp]; decide)]
          simp [finA, hp])
        have H1 := Lib.hid (oneA_no hf)
        clear hf hU HU
        obtain ⟨q0, q1, q2, qf⟩ := hQ
        go_wp2_with fail
        refine (rone_all H1.out _).mono ?_
        rintro e w2 ⟨rfl, hb⟩
        have hQ' := (show Box3 wr w.heap.size A3.zero from ⟨q0, q1, q2, qf⟩).keep hb
        have hB2 : Below w.heap.size w w2 := bthen hW hb
        obtain ⟨y0, y1, y2, yf⟩ := hQ'
        have hl2 := lt_of_cell y0
        clear q0 q1 q2 qf
        go_wp2
        refine bodyPost_ret (v := .tuple #[.agg #[.int .i64 0, .int .i64 0, .int .i64 0], .int .i64 121]) ?_ rfl ?_
        · simp [results, Try.results11, go_sem, y0, y1, y2, hl2]
        · refine Ans.of (r' := (A3.zero, 121)) ⟨rfl, by repeat (first | refine bset ?_ (by omega) _ | refine bpush ?_ _ | exact hB2)⟩ Hn.out
      · have H1 := Lib.hid (oneA_yes hf)
        by_cases hk0 : k = 0
        · subst hk0
          rw [Nat.add_zero] at hcell
          have Hn := Lib.hid (show preA (l.take (0 + 1)) = (⟨z, z, z⟩, 0) by rw [pre_one l hkz, ← Hz.out, oneA_yes hf])
          clear hf hU HU
          go_wp2_with fail
          refine (rone_all H1.out _).mono ?_
          rintro e w2 ⟨rfl, hb⟩
          have hB2 : Below w.heap.size w w2 := bthen hW hb
          have hP3 := ((hP.keep hb).put z z z).alloc (.cells #[.int .i64 z, .int .i64 z, .int .i64 z] 23)
          have hQ3 := ((((hQ.keep hb).far (p := ⟨w.heap.size + 1, 0, none⟩) (by simp) (.int .i64 z)).far (p := ⟨w.heap.size + 1, 1, none⟩) (by simp) (.int .i64 z)).far (p := ⟨w.heap.size + 1, 2, none⟩) (by simp) (.int .i64 z)).alloc (.cells #[.int .i64 z, .int .i64 z, .int .i64 z] 23)
          obtain ⟨p0, p1, p2, pf⟩ := hP.keep hb
          have hl2 := lt_of_cell p0
          clear hP hQ
          go_wp2
          go_roundw
          case rel => exact ⟨0 + 1, by omega, by go_num, _, Hn, hP3, hQ3, by repeat (first | refine bset ?_ (by omega) _ | refine bpush ?_ _ | exact hB2)⟩
          case measure => simp [intOf]; omega
        · obtain ⟨⟨r', c'⟩, hj⟩ : ∃ p, joinA r ⟨z, z, z⟩ = p := ⟨_, rfl⟩
          have hst : preA (l.take (k + 1)) = (r', c') := by
            obtain ⟨j, rfl⟩ : ∃ j, k = j + 1 := ⟨k - 1, by omega⟩
            rw [pre_succ l j hkz, hU, ← Hz.out]
            simp [stepA, hf, hj]
          have Hn := Lib.hid hst
          have HJ := Lib.hid hj
          have hkp : (0 : Int) < (k : Int) := by omega
          clear hf hU HU hj hst
          go_wp2_with fail
          refine (rone_all H1.out _).mono ?_
          rintro e w2 ⟨rfl, hb⟩
          have hX := Box3.new w2 23 z z z
          have hQ' := (hQ.keep hb).alloc (.cells #[.int .i64 z, .int .i64 z, .int .i64 z] 23)
          have hP' := (hP.keep hb).alloc (.cells #[.int .i64 z, .int .i64 z, .int .i64 z] 23)
          have hB2 : Below w.heap.size w (w2.alloc (.cells #[.int .i64 z, .int .i64 z, .int .i64 z] 23)) := bpush (bthen hW hb) _
          have hl2 := (hP.keep hb).lt
          obtain ⟨p0, p1, p2, pf⟩ := hP.keep hb
          go_wp2_with fail
          refine (rjoin_all HJ.out _).mono ?_
          rintro e w3 ⟨rfl, hb3⟩
          have hX3 := hX.keep hb3
          have hQ3 := hQ'.keep hb3
          have hP3 := hP'.keep hb3
          have hB3 := bthen hB2 hb3
          clear hX hQ' hP' hB2 hb3 hb hQ hP p0 p1 p2 pf
          have hX4 := hX3.put r'.s r'.mn r'.mx
          have hne : w2.heap.size ≠ w.heap.size := by omega
          have hne2 : w2.heap.size ≠ w.heap.size + 1 := by omega
          have hwl2 : w.heap.size ≤ w2.heap.size := by omega
          have hQ4 := ((hQ3.far (p := ⟨w2.heap.size, 0, none⟩) hne (.int .i64 r'.s)).far (p := ⟨w2.heap.size, 1, none⟩) hne (.int .i64 r'.mn)).far (p := ⟨w2.heap.size, 2, none⟩) hne (.int .i64 r'.mx)
          have hP4 := ((hP3.far (p := ⟨w2.heap.size, 0, none⟩) hne2 (.int .i64 r'.s)).far (p := ⟨w2.heap.size, 1, none⟩) hne2 (.int .i64 r'.mn)).far (p := ⟨w2.heap.size, 2, none⟩) hne2 (.int .i64 r'.mx)
          obtain ⟨x0, x1, x2, xf⟩ := hX3
          by_cases hc : c' = 0
          · subst hc
            have hP5 := hP4.put r'.s r'.mn r'.mx
            have hQ5 := ((hQ4.far (p := ⟨w.heap.size + 1, 0, none⟩) (by simp) (.int .i64 r'.s)).far (p := ⟨w.heap.size + 1, 1, none⟩) (by simp) (.int .i64 r'.mn)).far (p := ⟨w.heap.size + 1, 2, none⟩) (by simp) (.int .i64 r'.mx)
            obtain ⟨p0, p1, p2, pf⟩ := hP4
            clear hQ3 hP3 hX4 hQ4
            go_wp2
            go_roundw
            case rel => exact ⟨k + 1, by omega, by go_num, r', Hn, hP5, hQ5, by repeat (first | refine bset ?_ (by omega) _ | exact hB3)⟩
            case measure => simp [intOf]; omega
          · have Hr := Lib.hid (show allL l = (A3.zero, c') by
              rw [allL_pre l (by omega), pre_bad l (k + 1) (by rw [Hn.out]; exact hc), Hn.out]; simp [finA, hc])
            obtain ⟨q0, q1, q2, qf⟩ := hQ4
            clear hQ3 hP3 hX4 hP4
            go_wp2
            refine bodyPost_ret (v := .tuple #[.agg #[.int .i64 0, .int .i64 0, .int .i64 0], .int .i64 c']) ?_ rfl ?_
            · simp [results, Try.results11, go_sem, q0, q1, q2]
            · refine Ans.of (r' := (A3.zero, c')) ⟨rfl, by repeat (first | refine bset ?_ (by omega) _ | exact hB3)⟩ Hr.out
    · have hU := HU.out
      rw [List.take_of_length_le (by have := HZ.out; omega)] at hU
      obtain ⟨p0, p1, p2, pf⟩ := hP
      obtain ⟨q0, q1, q2, qf⟩ := hQ
      by_cases h0 : n = 0
      · have Hr := Lib.hid (show allL l = (r, 1) by
          have : l = [] := List.eq_nil_of_length_eq_zero (by have := HZ.out; omega)
          subst this; simp [preA] at hU; simp [allL, hU])
        subst h0
        clear hU HU
        go_wp2
        refine bodyPost_ret (v := .tuple #[.agg #[.int .i64 r.s, .int .i64 r.mn, .int .i64 r.mx], .int .i64 1]) ?_ rfl ?_
        · simp [results, Try.results11, go_sem, q0, q1, q2]
        · refine Ans.of (r' := (r, 1)) ⟨rfl, by repeat (first | refine bset ?_ (by omega) _ | exact hW)⟩ Hr.out
      · have Hr := Lib.hid (show allL l = (r, 0) by
          rw [allL_pre l (by have := HZ.out; omega), hU]; simp [finA])
        clear hU HU
        have hnp : (0 : Int) < (n : Int) := by omega
        go_wp2
        refine bodyPost_ret (v := .tuple #[.agg #[.int .i64 r.s, .int .i64 r.mn, .int .i64 r.mx], .int .i64 0]) ?_ rfl ?_
        · simp [results, Try.results11, go_sem, q0, q1, q2]
        · refine Ans.of (r' := (r, 0)) ⟨rfl, by repeat (first | refine bset ?_ (by omega) _ | exact hW)⟩ Hr.out
end Go.Proofs.Ytdgaemgilcbdiaa
