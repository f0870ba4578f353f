/- What Right asks: within (44), age (64), Name (68), Subset (66), file (67). -/
import Derived.Test.YtgaallkdfcckpaaSD
import Derived.BigQuiet
namespace Go.Proofs.Ytgaallkdfcckpaa
open Go.RowKit Go.Maps Go.Lib Go.Shelf
set_option linter.unusedSimpArgs false
set_option linter.unusedVariables false
theorem within_any (a b c : Int) (w : World) : Calls Try.prog 44 #[.int .i64 a, .int .i64 b, .int .i64 c] w fun e w' => e = .returned (.bool (decide (b ≤ a) && decide (a ≤ c))) ∧ w = w' := by
  by_cases h1 : b ≤ a
  · by_cases h2 : a ≤ c
    · go_enter Try.func44, Try.ntmps44
      go_wp2
      go_ret
      exact ⟨by simp [h1, h2], rfl⟩
    · go_enter Try.func44, Try.ntmps44
      go_wp2
      go_ret
      exact ⟨by simp [h1, h2], rfl⟩
  · go_enter Try.func44, Try.ntmps44
    go_wp2
    go_ret
    exact ⟨by have h5 : decide (b ≤ a) = false := decide_eq_false (by omega)
              rw [h5]; rfl, rfl⟩
theorem age_any (a : Int) (w : World) : Calls Try.prog 64 #[.int .i64 a] w fun e w' => e = .returned (.bool (decide (0 ≤ a) && decide (a ≤ 1099511627776))) ∧ w = w' := by
  by_cases h1 : 0 ≤ a
  · by_cases h2 : a ≤ 1099511627776
    · go_enter Try.func64, Try.ntmps64
      go_wp2
      go_ret
      exact ⟨by simp [h1, h2], rfl⟩
    · go_enter Try.func64, Try.ntmps64
      go_wp2
      go_ret
      exact ⟨by simp [h1, h2], rfl⟩
  · go_enter Try.func64, Try.ntmps64
    go_wp2
    go_ret
    exact ⟨by have h5 : decide (0 ≤ a) = false := decide_eq_false (by omega)
              rw [h5]; rfl, rfl⟩
def BoolQ (w : World) (P : Prop) (e : Ending) (w' : World) : Prop := (∃ r, e = .returned (.bool r) ∧ (r = true → P)) ∧ w = w'
def BoolB (w : World) (P : Prop) (e : Ending) (w' : World) : Prop := (∃ r, e = .returned (.bool r) ∧ (r = true → P)) ∧ Below w.heap.size w w'
set_option maxRecDepth 100000 in
set_option maxHeartbeats 16000000 in
theorem name68 (s : ByteArray) (w : World) (hs : s.size ≤ 9223372036854775807) : Calls Try.prog 68 #[.string s] w (BoolQ w True) := by
  go_enter Try.func68, Try.ntmps68
  go_upto_region 2 with fail
  go_loopw [3] (fun vi wr => ∃ k : Nat, k ≤ s.size ∧ vi = .int .i64 k ∧ wr = w) (fun vi _ => s.size - (intOf vi).toNat)
  case atStart => exact ⟨0, Nat.zero_le _, rfl, rfl⟩
  case round =>
    obtain ⟨p, hp, rfl, rfl⟩ := hrel
    by_cases hlt : p < s.size
    case neg =>
      have hge : ¬ (p : Int) < (s.size : Int) := by omega
      obtain ⟨z, hz⟩ : ∃ z, s.size = z := ⟨_, rfl⟩
      rw [hz] at hge hs
      clear hlt hp
      by_cases h1 : 1 ≤ z
      · have d1 : decide ((1 : Int) ≤ (z : Int)) = true := by simp; omega
        by_cases h2 : z ≤ 12
        · have d2 : decide ((z : Int) ≤ 12) = true := by simp; omega
          go_wp2_with fail
          go_ret
          exact ⟨⟨_, rfl, fun _ => trivial⟩, rfl⟩
        · have d2 : decide ((z : Int) ≤ 12) = false := by simp; omega
          go_wp2_with fail
          go_ret
          exact ⟨⟨_, rfl, fun _ => trivial⟩, rfl⟩
      · have d1 : decide ((1 : Int) ≤ (z : Int)) = false := by simp; omega
        go_wp2_with fail
        go_ret
        exact ⟨⟨_, rfl, fun _ => trivial⟩, rfl⟩
    case pos =>
    have hpi : (p : Int) < (s.size : Int) := by omega
    have hp0 : (0 : Int) ≤ (p : Int) := by omega
    obtain ⟨x, hx⟩ : ∃ x, (s[p]'hlt).toNat = x := ⟨_, rfl⟩
    have K : True := trivial
    by_cases a1 : x < 97
    · have e1 : decide ((x : Int) < 97) = true := by simp; omega
      by_cases a2 : x < 48
      · have e2 : decide ((x : Int) < 48) = true := by simp; omega
        by_cases a3 : x = 46
        · have e3 : ((x : Int) == 46) = true := by rw [beq_iff_eq]; omega
          have e4 : ((x : Int) != 46) = false := by simp; omega
          clear a1 a2 a3
          go_wp2_with fail
          go_roundw
          case rel => exact ⟨p + 1, by omega, by go_num, by first | rfl | trivial⟩
          case measure => simp [intOf]; omega
        · have e3 : ((x : Int) == 46) = false := by rw [beq_eq_false_iff_ne]; omega
          have e4 : ((x : Int) != 46) = true := by simp; omega
          clear a1 a2 a3
          go_wp2_with fail
          go_ret
          exact ⟨⟨_, rfl, fun _ => trivial⟩, rfl⟩
      · have e2 : decide ((x : Int) < 48) = false := by simp; omega
        have e3 : ((x : Int) == 46) = false := by rw [beq_eq_false_iff_ne]; omega
        have e4 : ((x : Int) != 46) = true := by simp; omega
        by_cases a3 : 57 < x
        · have e5 : decide ((57 : Int) < (x : Int)) = true := by simp; omega
          clear a1 a2 a3
          go_wp2_with fail
          go_ret
          exact ⟨⟨_, rfl, fun _ => trivial⟩, rfl⟩
        · have e5 : decide ((57 : Int) < (x : Int)) = false := by simp; omega
          clear a1 a2 a3
          go_wp2_with fail
          go_roundw
          case rel => exact ⟨p + 1, by omega, by go_num, by first | rfl | trivial⟩
          case measure => simp [intOf]; omega
    · have e1 : decide ((x : Int) < 97) = false := by simp; omega
      by_cases a2 : 122 < x
      · have e2 : decide ((122 : Int) < (x : Int)) = true := by simp; omega
        have e3 : decide ((x : Int) < 48) = false := by simp; omega
        have e4 : decide ((57 : Int) < (x : Int)) = true := by simp; omega
        have e5 : ((x : Int) == 46) = false := by rw [beq_eq_false_iff_ne]; omega
        have e6 : ((x : Int) != 46) = true := by simp; omega
        clear a1 a2
        go_wp2_with fail
        go_ret
        exact ⟨⟨_, rfl, fun _ => trivial⟩, rfl⟩
      · have e2 : decide ((122 : Int) < (x : Int)) = false := by simp; omega
        clear a1 a2
        go_wp2_with fail
        go_roundw
        case rel => exact ⟨p + 1, by omega, by go_num, by first | rfl | trivial⟩
        case measure => simp [intOf]; omega
set_option maxRecDepth 100000 in
set_option maxHeartbeats 16000000 in
theorem subset66 (A B : Option Addr) (n c m d : Nat) (L M : List ByteArray) (w : World) (hL : StrsIn w A n c L) (hM : StrsIn w B m d M) : Calls Try.prog 66 #[.slice A n c, .slice B m d] w (BoolQ w (∀ s ∈ L, s ∈ M)) := by
  have HL := Lib.hid hL
  have HM := Lib.hid hM
  have hnm := hL.max
  clear hL hM
  go_enter Try.func66, Try.ntmps66
  go_upto_region 3 with fail
  go_loopw [5, 6] (fun v5 vi wr => ∃ (k : Nat) (u : Int), k ≤ n ∧ vi = .int .i64 k ∧ v5 = .int .i64 u ∧ Hid (∀ (j : Nat) (h : j < L.length), j < k → L[j] ∈ M) ∧ wr = w) (fun _ vi _ => n - (intOf vi).toNat)
  case atStart => exact ⟨0, -1, by omega, rfl, rfl, Lib.hid (fun j _ h => by omega), rfl⟩
  case round =>
    obtain ⟨k, u, hk, rfl, rfl, HK, rfl⟩ := hrel
    by_cases hlt : k < n
    case neg =>
      have hge : ¬ (k : Int) < (n : Int) := by omega
      have HE := Lib.hid (show ∀ s ∈ L, s ∈ M from fun s hs => by
        obtain ⟨j, hj, rfl⟩ := List.mem_iff_getElem.1 hs
        exact HK.out j hj (by have := HL.out.len; omega))
      clear hlt
      go_wp2_with fail
      go_ret
      exact ⟨⟨_, rfl, fun _ => HE.out⟩, rfl⟩
    case pos =>
    have hkz : k < L.length := by have := HL.out.len; omega
    have hki : (k : Int) < (n : Int) := by omega
    have hk0 : (0 : Int) ≤ (k : Int) := by omega
    obtain ⟨b, off, hAe, q0⟩ := text_cell HL.out.row hkz
    obtain ⟨s, hs⟩ : ∃ s, s = L[k] := ⟨_, rfl⟩
    rw [← hs] at q0
    obtain ⟨o, ho⟩ := first_ex M s
    have HF := Lib.hid (find_is B m d M s o ho wr HM.out.row HM.out.len HM.out.max)
    obtain ⟨r, hr⟩ : ∃ r, r = o.isSome := ⟨_, rfl⟩
    obtain ⟨og, hog⟩ : ∃ g : Int, g = ((o.getD 0 : Nat) : Int) := ⟨_, rfl⟩
    rw [← hr, ← hog] at HF
    have HRE := Lib.hid (show r = true → s ∈ M by rw [hr]; exact fun h => ho.mem.1 h)
    have HS := Lib.hid hs
    subst hAe
    clear hs hr hog ho hlt
    cases r with
    | false =>
      go_wp2_with (go_at_call 30; refine HF.out.mono ?_; rintro e w5 ⟨rfl, hw5⟩; obtain rfl : wr = w5 := hw5.symm)
      go_ret
      exact ⟨⟨_, rfl, fun h => by cases h⟩, rfl⟩
    | true =>
      have HK2 := Lib.hid (show ∀ (j : Nat) (h : j < L.length), j < k + 1 → L[j] ∈ M from fun j h hj => by
        rcases Nat.lt_or_ge j k with e | e
        · exact HK.out j h e
        · obtain rfl : j = k := by omega
          rw [← HS.out]; exact HRE.out rfl)
      by_cases hu : og ≤ u
      · have d1 : decide (og ≤ u) = true := by simp [hu]
        go_wp2_with (go_at_call 30; refine HF.out.mono ?_; rintro e w5 ⟨rfl, hw5⟩; obtain rfl : wr = w5 := hw5.symm)
        go_ret
        exact ⟨⟨_, rfl, fun h => by cases h⟩, rfl⟩
      · have d1 : decide (og ≤ u) = false := by simp; omega
        go_wp2_with (go_at_call 30; refine HF.out.mono ?_; rintro e w5 ⟨rfl, hw5⟩; obtain rfl : wr = w5 := hw5.symm)
        go_roundw
        case rel => exact ⟨k + 1, og, by omega, by go_num, rfl, HK2, by first | rfl | trivial⟩
        case measure => simp [intOf]; omega
/-- What is known of a file that may be. -/
structure FileOk (p : PZ) (z : SZ) : Prop where
  t0 : 0 ≤ z.tier
  t1 : z.tier < p.T.length
  j0 : -1 ≤ z.proj
  j1 : z.proj < p.J.length
  rows : 0 ≤ z.rows ∧ z.rows ≤ 65536
  at_ : z.proj = -1 ∨ ∃ y, atZ p.J z.proj = some y ∧ y.x = z.tier
end Go.Proofs.Ytgaallkdfcckpaa
