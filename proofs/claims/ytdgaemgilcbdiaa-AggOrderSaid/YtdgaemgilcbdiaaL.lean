import Derived.Test.YtdgaemgilcbdiaaJ
import Derived.Deep.RegionHeld3
import Derived.Deep.QuietTactic
import Derived.BigQuiet
namespace Go.Proofs.Ytdgaemgilcbdiaa
open Go.RowKit
set_option linter.unusedSimpArgs false
theorem below_drewN {B : Nat} {a w : World} (h : Below B a w) (n : Nat) : Below B a (w.drewN n) := ⟨h.os, h.tape, h.output, h.size, h.block⟩
theorem cell_on {W w1 : World} {b o : Nat} {v : Value} (hb : Below W.heap.size W w1) (h : W.cell? ⟨b, o, none⟩ = some v) : w1.cell? ⟨b, o, none⟩ = some v :=
  (hb.cell (p := ⟨b, o, none⟩) (lt_of_cell h)).trans h
theorem below_on {V W w1 : World} (h : Below V.heap.size V W) (hb : Below W.heap.size W w1) : Below V.heap.size V w1 := bthen h hb
theorem all_all {zs : List Int} {r : A3 × Int} (h : allL zs = r) (A : Option Addr) (n c : Nat) (w : World) (hA : Row w A (zs.map (Value.int .i64))) (hn : n ≤ 9223372036854775807) (hz : n = zs.length) (hnc : n ≤ c) :
    Calls Try.prog 10 #[.slice A n c] w (Ans r w) := by
  subst h
  cases zs with
  | nil => simp at hz; subst hz; exact all_none A c w
  | cons z zs => exact all_some A n c z zs w hA hn (by simpa using hz) hnc
theorem rall_all {zs : List Int} {r : A3 × Int} (h : allL zs = r) (A : Option Addr) (n c : Nat) (w : World) (hA : Row w A (zs.map (Value.int .i64))) (hn : n ≤ 9223372036854775807) (hz : n = zs.length) :
    Calls Try.prog 11 #[.slice A n c] w (Ans r w) := by subst h; exact rall_any A n c zs w hA hn hz
set_option maxHeartbeats 1000000 in
theorem tells_any (a b : A3) (A : Option Addr) (n c : Nat) (zs : List Int) (w : World) (hA0 : Row w A (zs.map (Value.int .i64))) (hz : n = zs.length) (hnc : n ≤ c) (hwz : ∀ x ∈ zs, -9223372036854775808 ≤ x ∧ x ≤ 9223372036854775807) (hn : n ≤ 9223372036854775807) :
    Calls Try.prog 3 #[.agg #[.int .i64 a.s, .int .i64 a.mn, .int .i64 a.mx], .agg #[.int .i64 b.s, .int .i64 b.mn, .int .i64 b.mx], .slice A n c] w
      fun e w' => e = .returned (.bool true) ∧ Below w.heap.size w w' := by
  by_cases hlong : 200 < n
  · go_enter Try.func3, Try.ntmps3
    go_wp2_with fail
    refine (alive_any _).mono ?_
    rintro e w1 ⟨rfl, hb⟩
    go_wp2
    go_ret
    exact ⟨rfl, bthen (bpush (bpush (Below.refl _ _) _) _) hb⟩
  obtain ⟨⟨x, e1⟩, h1⟩ : ∃ p, joinA a b = p := ⟨_, rfl⟩
  obtain ⟨⟨p, e2⟩, h2⟩ : ∃ p, allL zs = p := ⟨_, rfl⟩
  have H1 := Lib.hid h1
  have H2 := Lib.hid h2
  have HZ := Lib.hid hz
  have HW := Lib.hid hwz
  clear h1 h2 hz hwz
  have hA := (Box3.new w 23 a.s a.mn a.mx).alloc (.cells #[.int .i64 b.s, .int .i64 b.mn, .int .i64 b.mx] 23)
  have hD := Box3.new (w.alloc (.cells #[.int .i64 a.s, .int .i64 a.mn, .int .i64 a.mx] 23)) 23 b.s b.mn b.mx
  have hB := bpush (bpush (Below.refl w.heap.size w) (.cells #[.int .i64 a.s, .int .i64 a.mn, .int .i64 a.mx] 23)) (.cells #[.int .i64 b.s, .int .i64 b.mn, .int .i64 b.mx] 23)
  simp only [World.size_alloc] at hD
  go_enter Try.func3, Try.ntmps3
  have qA := hA; obtain ⟨A0, A1, A2, Af⟩ := qA
  have qD := hD; obtain ⟨D0, D1, D2, Df⟩ := qD
  go_wp2_with fail
  refine (join_all H1.out _).mono ?_
  rintro e w1 ⟨rfl, hb⟩
  clear A0 A1 A2 Af D0 D1 D2 Df
  replace hA := hA.keep hb
  replace hD := hD.keep hb
  replace hB := bthen hB hb
  clear hb
  replace hA := hA.alloc (.cells #[.int .i64 x.s, .int .i64 x.mn, .int .i64 x.mx] 23)
  replace hD := hD.alloc (.cells #[.int .i64 x.s, .int .i64 x.mn, .int .i64 x.mx] 23)
  have hX := Box3.new w1 23 x.s  x.mn  x.mx
  replace hB := bpush hB (.cells #[.int .i64 x.s, .int .i64 x.mn, .int .i64 x.mx] 23)
  have qA := hA; obtain ⟨A0, A1, A2, Af⟩ := qA
  have qD := hD; obtain ⟨D0, D1, D2, Df⟩ := qD
  go_wp2_with fail
  refine (rjoin_all H1.out _).mono ?_
  rintro e w2 ⟨rfl, hb⟩
  clear A0 A1 A2 Af D0 D1 D2 Df
  replace hA := hA.keep hb
  replace hD := hD.keep hb
  replace hX := hX.keep hb
  replace hB := bthen hB hb
  clear hb
  replace hA := hA.alloc (.cells #[.int .i64 x.s, .int .i64 x.mn, .int .i64 x.mx] 23)
  replace hD := hD.alloc (.cells #[.int .i64 x.s, .int .i64 x.mn, .int .i64 x.mx] 23)
  replace hX := hX.alloc (.cells #[.int .i64 x.s, .int .i64 x.mn, .int .i64 x.mx] 23)
  have hY := Box3.new w2 23 x.s  x.mn  x.mx
  replace hB := bpush hB (.cells #[.int .i64 x.s, .int .i64 x.mn, .int .i64 x.mx] 23)
  have hR3 := hA0.keep (Nat.le_refl _) hB
  go_wp2_with fail
  refine (all_all H2.out _ _ _ _ hR3 (by omega) HZ.out hnc).mono ?_
  rintro e w3 ⟨rfl, hb⟩
  replace hA := hA.keep hb
  replace hD := hD.keep hb
  replace hX := hX.keep hb
  replace hY := hY.keep hb
  replace hB := bthen hB hb
  clear hb
  replace hA := hA.alloc (.cells #[.int .i64 p.s, .int .i64 p.mn, .int .i64 p.mx] 23)
  replace hD := hD.alloc (.cells #[.int .i64 p.s, .int .i64 p.mn, .int .i64 p.mx] 23)
  replace hX := hX.alloc (.cells #[.int .i64 p.s, .int .i64 p.mn, .int .i64 p.mx] 23)
  replace hY := hY.alloc (.cells #[.int .i64 p.s, .int .i64 p.mn, .int .i64 p.mx] 23)
  have hP := Box3.new w3 23 p.s  p.mn  p.mx
  replace hB := bpush hB (.cells #[.int .i64 p.s, .int .i64 p.mn, .int .i64 p.mx] 23)
  have hR4 := hA0.keep (Nat.le_refl _) hB
  go_wp2_with fail
  refine (rall_all H2.out _ _ _ _ hR4 (by omega) HZ.out).mono ?_
  rintro e w4 ⟨rfl, hb⟩
  replace hA := hA.keep hb
  replace hD := hD.keep hb
  replace hX := hX.keep hb
  replace hY := hY.keep hb
  replace hP := hP.keep hb
  replace hB := bthen hB hb
  clear hb
  replace hA := hA.alloc (.cells #[.int .i64 p.s, .int .i64 p.mn, .int .i64 p.mx] 23)
  replace hD := hD.alloc (.cells #[.int .i64 p.s, .int .i64 p.mn, .int .i64 p.mx] 23)
  replace hX := hX.alloc (.cells #[.int .i64 p.s, .int .i64 p.mn, .int .i64 p.mx] 23)
  replace hY := hY.alloc (.cells #[.int .i64 p.s, .int .i64 p.mn, .int .i64 p.mx] 23)
  replace hP := hP.alloc (.cells #[.int .i64 p.s, .int .i64 p.mn, .int .i64 p.mx] 23)
  have hQ := Box3.new w4 23 p.s  p.mn  p.mx
  replace hB := bpush hB (.cells #[.int .i64 p.s, .int .i64 p.mn, .int .i64 p.mx] 23)
  clear H1 H2 hR3 hR4 hD
  obtain ⟨rb, hrb⟩ : ∃ q, rightB a.s a.mn a.mx = q := ⟨_, rfl⟩
  have HRB := Lib.hid hrb
  clear hrb
  obtain ⟨A0, A1, A2, Af⟩ := hA
  obtain ⟨X0, X1, X2, Xf⟩ := hX
  obtain ⟨Y0, Y1, Y2, Yf⟩ := hY
  obtain ⟨P0, P1, P2, Pf⟩ := hP
  obtain ⟨Q0, Q1, Q2, Qf⟩ := hQ
  clear Af Xf Yf Pf Qf
  go_wp2_with fail
  generalize w4.alloc (.cells #[.int .i64 p.s, .int .i64 p.mn, .int .i64 p.mx] 23) = W5 at *
  have hV : Below W5.heap.size W5 W5 := Below.refl _ _
  go_region_held3 (fun w' => (w'.cell? ⟨w.heap.size, 0, none⟩ = some (.int .i64 a.s) ∧ w'.cell? ⟨w.heap.size, 1, none⟩ = some (.int .i64 a.mn) ∧ w'.cell? ⟨w.heap.size, 2, none⟩ = some (.int .i64 a.mx)) ∧
      (w'.cell? ⟨w1.heap.size, 0, none⟩ = some (.int .i64 x.s) ∧ w'.cell? ⟨w1.heap.size, 1, none⟩ = some (.int .i64 x.mn) ∧ w'.cell? ⟨w1.heap.size, 2, none⟩ = some (.int .i64 x.mx)) ∧
      (w'.cell? ⟨w2.heap.size, 0, none⟩ = some (.int .i64 x.s) ∧ w'.cell? ⟨w2.heap.size, 1, none⟩ = some (.int .i64 x.mn) ∧ w'.cell? ⟨w2.heap.size, 2, none⟩ = some (.int .i64 x.mx)) ∧
      (w'.cell? ⟨w3.heap.size, 0, none⟩ = some (.int .i64 p.s) ∧ w'.cell? ⟨w3.heap.size, 1, none⟩ = some (.int .i64 p.mn) ∧ w'.cell? ⟨w3.heap.size, 2, none⟩ = some (.int .i64 p.mx)) ∧
      (w'.cell? ⟨w4.heap.size, 0, none⟩ = some (.int .i64 p.s) ∧ w'.cell? ⟨w4.heap.size, 1, none⟩ = some (.int .i64 p.mn) ∧ w'.cell? ⟨w4.heap.size, 2, none⟩ = some (.int .i64 p.mx)) ∧
      Below W5.heap.size W5 w')
    (first
      | (go_split_ands
         repeat' apply And.intro
         all_goals first | exact cell_on hb (by assumption) | exact below_on (by assumption) hb)
      | (repeat' apply And.intro
         all_goals first | exact (Below.refl _ _).drew | go_keep))
    (first | (go_at_call 12; refine (right_any _ _ _ _).mono ?_; rintro e w6 ⟨rfl, hb⟩; rw [HRB.out]) | (go_at_call 13; refine (rright_any _ _ _ _).mono ?_; rintro e w6 ⟨rfl, hb⟩; rw [HRB.out]))
  go_split_ands
  clear A0 A1 A2 X0 X1 X2 Y0 Y1 Y2 P0 P1 P2 Q0 Q1 Q2 hV HRB
  go_wp2_with fail
  go_loopw [15, 16, 17, 18, 19] (fun i _ _ _ _ wr => ∃ k : Nat, k ≤ n ∧ i = .int .i64 k ∧ Below w.heap.size w wr)
    (fun i _ _ _ _ _ => n - (intOf i).toNat)
  case atStart => exact ⟨0, Nat.zero_le _, rfl, bthen hB (by assumption)⟩
  case round =>
    clear hB
    obtain ⟨k, hk, rfl, hB⟩ := hrel
    by_cases hlt : k < n
    · have hkz : k < zs.length := by have := HZ.out; omega
      obtain ⟨z, hz⟩ : ∃ z, z = zs[k] := ⟨_, rfl⟩
      obtain ⟨z1, z2⟩ := HW.out z (by rw [hz]; exact List.getElem_mem _)
      obtain ⟨b', off, hA', hcell⟩ : ∃ b off, A = some ⟨b, off, none⟩ ∧ w.cell? ⟨b, off + k, none⟩ = some (.int .i64 z) := by
        rcases hA0 with hA | ⟨b, off, rfl, hc⟩
        · simp at hA; subst hA; simp at hkz
        · have h2 := hc k (.int .i64 zs[k]) (by simp [hkz])
          exact ⟨b, off, rfl, by rw [hz]; exact h2⟩
      clear hz
      subst hA'
      obtain ⟨⟨r, cc⟩, ho⟩ : ∃ p, oneA z = p := ⟨_, rfl⟩
      have HO := Lib.hid ho
      clear ho
      have hcell' := (hB.cell (p := ⟨b', off + k, none⟩) (lt_of_cell hcell)).trans hcell
      go_wp2_with fail
      refine (one_all HO.out _).mono ?_
      rintro e v1 ⟨rfl, hb⟩
      have hX := Box3.new v1 23 r.s r.mn r.mx
      replace hB := bpush (bthen hB hb) (.cells #[.int .i64 r.s, .int .i64 r.mn, .int .i64 r.mx] 23)
      clear hb hcell'
      have hcell' := (hB.cell (p := ⟨b', off + k, none⟩) (lt_of_cell hcell)).trans hcell
      go_wp2_with fail
      refine (rone_all HO.out _).mono ?_
      rintro e v2 ⟨rfl, hb⟩
      replace hX := (hX.keep hb).alloc (.cells #[.int .i64 r.s, .int .i64 r.mn, .int .i64 r.mx] 23)
      have hY := Box3.new v2 23 r.s r.mn r.mx
      replace hB := bpush (bthen hB hb) (.cells #[.int .i64 r.s, .int .i64 r.mn, .int .i64 r.mx] 23)
      clear hb hcell'
      have hcell' := (hB.cell (p := ⟨b', off + k, none⟩) (lt_of_cell hcell)).trans hcell
      obtain ⟨X0, X1, X2, Xf⟩ := hX
      obtain ⟨Y0, Y1, Y2, Yf⟩ := hY
      have hk0 : (0 : Int) ≤ (k : Int) := by omega
      have hk1 : (k : Int) < (n : Int) := by omega
      go_wp2_with fail
      generalize v2.alloc (.cells #[.int .i64 r.s, .int .i64 r.mn, .int .i64 r.mx] 23) = W6 at *
      go_quiet ((first | (go_at_call 16; exact Calls.quiet_of_same ((size_any _ _ z2).mono fun _ _ h => ⟨h.1, h.2.symm⟩)) | (go_at_call 17; exact Calls.quiet_of_same ((rsize_any _ _ z1 z2).mono fun _ _ h => ⟨h.1, h.2.symm⟩))))
      go_wp2
      go_roundw
      case rel => exact ⟨k + 1, by omega, by go_num, below_drewN hB _⟩
      case measure => simp [intOf]; omega
    · go_wp2_with fail
      refine (alive_any _).mono ?_
      rintro e w9 ⟨rfl, hb⟩
      go_wp2
      go_ret
      exact ⟨rfl, bthen hB hb⟩
end Go.Proofs.Ytdgaemgilcbdiaa
