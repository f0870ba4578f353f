import Derived.Test.YtdgaemgilcbdiaaL
import Derived.Test.YtdgaemgilcbdiaaO
namespace Go.Proofs.Ytdgaemgilcbdiaa
open Go.RowKit
set_option linter.unusedSimpArgs false
theorem sz_bd (M : Int) (zs : List Int) (h : ∀ x ∈ zs, -M ≤ x ∧ x ≤ M) : szL zs ≤ M * zs.length := by
  induction zs with
  | nil => simp [szL]
  | cons z zs ih =>
    have h1 := h z (by simp)
    have h2 := ih (fun x hx => h x (by simp [hx]))
    rw [szL_cons, List.length_cons]
    have : M * ((zs.length + 1 : Nat) : Int) = M * zs.length + M := by rw [Int.natCast_add, Int.mul_add]; simp
    omega
theorem sum_ge (m : Int) (zs : List Int) (h : ∀ x ∈ zs, m ≤ x) : zs.length * m ≤ sumL zs := by
  induction zs with
  | nil => simp [sumL]
  | cons z zs ih =>
    have h1 := h z (by simp)
    have h2 := ih (fun x hx => h x (by simp [hx]))
    have e : sumL (z :: zs) = z + sumL zs := by simp [sumL]
    rw [e, List.length_cons]
    have : ((zs.length + 1 : Nat) : Int) * m = zs.length * m + m := by rw [Int.natCast_add, Int.add_mul]; simp
    omega
theorem sum_le (m : Int) (zs : List Int) (h : ∀ x ∈ zs, x ≤ m) : sumL zs ≤ zs.length * m := by
  induction zs with
  | nil => simp [sumL]
  | cons z zs ih =>
    have h1 := h z (by simp)
    have h2 := ih (fun x hx => h x (by simp [hx]))
    have e : sumL (z :: zs) = z + sumL zs := by simp [sumL]
    rw [e, List.length_cons]
    have : ((zs.length + 1 : Nat) : Int) * m = zs.length * m + m := by rw [Int.natCast_add, Int.add_mul]; simp
    omega
theorem any_succ (zs : List Int) (m : Int) (k : Nat) (h : k < zs.length) : (zs.take (k + 1)).any (· == m) = ((zs.take k).any (· == m) || zs[k] == m) := by
  rw [take_snoc _ _ h, List.any_append]; simp
theorem mul_bd {n : Nat} {m : Int} (hn : n ≤ 200) (h1 : -1125899906842624 ≤ m) (h2 : m ≤ 1125899906842624) : -4611686018427387904 ≤ (n : Int) * m ∧ (n : Int) * m ≤ 4611686018427387904 := by
  have h3 : (n : Int) * m ≤ (n : Int) * 1125899906842624 := Int.mul_le_mul_of_nonneg_left h2 (by omega)
  have h4 : (n : Int) * (-1125899906842624) ≤ (n : Int) * m := Int.mul_le_mul_of_nonneg_left h1 (by omega)
  omega
/-- The slice's cell at a place, in a later world. -/
theorem Row.cell {w : World} {A : Option Addr} {zs : List Int} {k : Nat} (hA : Row w A (zs.map (Value.int .i64))) (hk : k < zs.length) :
    ∃ b off, A = some ⟨b, off, none⟩ ∧ w.cell? ⟨b, off + k, none⟩ = some (.int .i64 zs[k]) := by
  rcases hA with hA | ⟨b, off, rfl, hc⟩
  · simp at hA; subst hA; simp at hk
  · exact ⟨b, off, rfl, hc k _ (by simp [hk])⟩
set_option maxHeartbeats 1000000 in
theorem bounds_any (A : Option Addr) (n c : Nat) (zs : List Int) (w : World) (hA0 : Row w A (zs.map (Value.int .i64))) (hz : n = zs.length) (hnc : n ≤ c) (hn : n ≤ 9223372036854775807) :
    Calls Try.prog 5 #[.slice A n c] w fun e w' => e = .returned (.bool true) ∧ Below w.heap.size w w' := by
  by_cases hlong : 200 < n
  · go_enter Try.func5, Try.ntmps5
    go_wp2_with fail
    refine (alive_any _).mono ?_
    rintro e w1 ⟨rfl, hb⟩
    go_wp2
    go_ret
    exact ⟨rfl, hb⟩
  by_cases h0 : n = 0
  · subst h0
    clear hz hA0
    go_enter Try.func5, Try.ntmps5
    go_wp2_with fail
    refine (alive_any _).mono ?_
    rintro e w1 ⟨rfl, hb⟩
    go_wp2
    go_ret
    exact ⟨rfl, hb⟩
  have HZ := Lib.hid hz
  have h00 : ((n : Int) == 0) = false := by simp; omega
  have hpos : 0 < n := by omega
  clear hz h0
  go_enter Try.func5, Try.ntmps5
  go_wp2_with fail
  go_loop [3] (fun i => ∃ k : Nat, k ≤ n ∧ i = .int .i64 k ∧ ∀ j (hj : j < zs.length), j < k → -1125899906842624 ≤ zs[j] ∧ zs[j] ≤ 1125899906842624) (fun i => n - (intOf i).toNat)
  case atStart => exact ⟨0, Nat.zero_le _, rfl, fun j _ h => absurd h (by omega)⟩
  case round =>
    obtain ⟨k, hk, rfl, hall⟩ := hrel
    have Hall := Lib.hid hall
    clear hall
    by_cases hlt : k < n
    · have hkz : k < zs.length := by have := HZ.out; omega
      obtain ⟨b, off, hA', hcell⟩ := hA0.cell hkz
      obtain ⟨z, hz⟩ : ∃ z, z = zs[k] := ⟨_, rfl⟩
      rw [← hz] at hcell
      have Hz := Lib.hid hz
      clear hz
      subst hA'
      by_cases h1 : z < -1125899906842624
      · go_wp2_with fail
        refine (alive_any _).mono ?_
        rintro e w1 ⟨rfl, hb⟩
        go_wp2
        go_ret
        exact ⟨rfl, hb⟩
      · by_cases h2 : 1125899906842624 < z
        · go_wp2_with fail
          refine (alive_any _).mono ?_
          rintro e w1 ⟨rfl, hb⟩
          go_wp2
          go_ret
          exact ⟨rfl, hb⟩
        · go_wp2
          go_round
          case rel =>
            refine ⟨k + 1, by omega, by go_num, fun j hj hjk => ?_⟩
            by_cases e : j = k
            · subst e; rw [← Hz.out]; omega
            · exact Hall.out j hj (by omega)
          case measure => simp [intOf]; omega
    · have hall : ∀ x ∈ zs, -1125899906842624 ≤ x ∧ x ≤ 1125899906842624 := by
        intro x hx; obtain ⟨j, hj, rfl⟩ := List.getElem_of_mem hx; exact Hall.out j hj (by have := HZ.out; omega)
      have hlen := HZ.out
      have hsz := sz_bd 1125899906842624 zs hall
      obtain ⟨r, hr, hi, hright⟩ := all_ok zs (by intro h; rw [h] at hlen; simp at hlen; omega) (fun x hx => by have := hall x hx; exact fit1_in (by omega) (by omega)) (by omega)
      have hlo := hall _ hi.mn
      have hhi := hall _ hi.mx
      have hs1 := sum_ge r.mn zs hi.lo
      have hs2 := sum_le r.mx zs hi.hi
      rw [← hlen, ← hi.s] at hs1 hs2
      obtain ⟨t1, t2⟩ := mul_bd (n := n) (by omega) hlo.1 hlo.2
      obtain ⟨t3, t4⟩ := mul_bd (n := n) (by omega) hhi.1 hhi.2
      have HR := Lib.hid hr
      have HI := Lib.hid hi
      have HT := Lib.hid hright
      clear hr hi hright hsz hall Hall hlen hlo hhi
      go_wp2_with fail
      refine (all_all HR.out _ _ _ _ hA0 (by omega) HZ.out hnc).mono ?_
      rintro e w1 ⟨rfl, hb⟩
      have hX := Box3.new w1 23 r.s r.mn r.mx
      have hB := bpush hb (.cells #[.int .i64 r.s, .int .i64 r.mn, .int .i64 r.mx] 23)
      clear hb
      go_wp2_with fail
      go_loopw [6, 7, 8] (fun l h i wr => ∃ k : Nat, k ≤ n ∧ i = .int .i64 k ∧ ∃ b1 b2 : Bool, l = .bool b1 ∧ h = .bool b2 ∧ Hid (b1 = (zs.take k).any (· == r.mn)) ∧ Hid (b2 = (zs.take k).any (· == r.mx)) ∧ Box3 wr w1.heap.size r ∧ Below w.heap.size w wr)
        (fun _ _ i _ => n - (intOf i).toNat)
      case atStart => exact ⟨0, Nat.zero_le _, rfl, false, false, rfl, rfl, by simp [Hid], by simp [Hid], hX, hB⟩
      case round =>
        clear hX hB
        obtain ⟨k, hk, rfl, b1, b2, rfl, rfl, HB1, HB2, hX, hB⟩ := hrel
        by_cases hlt : k < n
        · have hkz : k < zs.length := by have := HZ.out; omega
          obtain ⟨b, off, hA', hcell⟩ := hA0.cell hkz
          obtain ⟨z, hz⟩ : ∃ z, z = zs[k] := ⟨_, rfl⟩
          have s1 := any_succ zs r.mn k hkz
          have s2 := any_succ zs r.mx k hkz
          rw [← HB1.out, ← hz] at s1
          rw [← HB2.out, ← hz] at s2
          have hl1 := HI.out.lo z (by rw [hz]; exact List.getElem_mem _)
          have hl2 := HI.out.hi z (by rw [hz]; exact List.getElem_mem _)
          have S1 := Lib.hid s1
          have S2 := Lib.hid s2
          rw [← hz] at hcell
          clear hz s1 s2 HB1 HB2
          subst hA'
          have hcell' := (hB.cell (p := ⟨b, off + k, none⟩) (lt_of_cell hcell)).trans hcell
          have qX := hX
          obtain ⟨x0, x1, x2, xf⟩ := qX
          have hk0 : (0 : Int) ≤ (k : Int) := by omega
          have hk1 : (k : Int) < (n : Int) := by omega
          have hd1 : decide (z < r.mn) = false := by simp; omega
          clear hcell
          cases b1 <;> cases b2
          all_goals
            go_wp2_with fail
            go_quiet (fail)
            go_wp2_with fail
            go_quiet (fail)
            go_wp2_with fail
            go_quiet (fail)
            go_wp2
            go_roundw
            case rel => exact ⟨k + 1, by omega, by go_num, _, _, rfl, rfl, by show _ = _; rw [S1.out]; simp, by show _ = _; rw [S2.out]; simp, hX, below_drewN hB _⟩
            case measure => simp [intOf]; omega
        · have e1 := HB1.out
          have e2 := HB2.out
          have hlen := HZ.out
          rw [List.take_of_length_le (by omega)] at e1 e2
          have f1 : b1 = true := by rw [e1, List.any_eq_true]; exact ⟨_, HI.out.mn, by simp⟩
          have f2 : b2 = true := by rw [e2, List.any_eq_true]; exact ⟨_, HI.out.mx, by simp⟩
          clear e1 e2 HB1 HB2 hlen
          subst f1 f2
          have qX := hX
          obtain ⟨x0, x1, x2, xf⟩ := qX
          go_wp2_with fail
          refine (alive_any _).mono ?_
          rintro e w9 ⟨rfl, hb⟩
          replace hB := bthen hB hb
          replace hX := hX.keep hb
          clear x0 x1 x2 xf hb
          have qX := hX
          obtain ⟨x0, x1, x2, xf⟩ := qX
          go_wp2_with fail
          refine (right_any _ _ _ _).mono ?_
          rintro e w10 ⟨rfl, hb⟩
          rw [show rightB r.s r.mn r.mx = true from HT.out]
          replace hB := bthen hB hb
          go_wp2
          go_ret
          exact ⟨rfl, hB⟩
end Go.Proofs.Ytdgaemgilcbdiaa
