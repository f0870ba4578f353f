/- How many rows a cuboid's file has: the closure of candidates (60), the document's (39); candidates (34). -/
import Derived.Test.YtgaallkdfcckpaaSE
import Derived.BigQuiet
namespace Go.Proofs.Ytgaallkdfcckpaa
open Go.RowKit Go.Maps Go.Lib Go.Shelf
set_option linter.unusedSimpArgs false
set_option linter.unusedVariables false
def hitS (t j : Int) (f : SZ) : Bool := decide (f.tier = t) && decide (f.proj = j)
def rowsS (F : List SZ) (t j : Int) : Option Int := (F.find? (hitS t j)).map SZ.rows
theorem rowsS_drop_hit {F : List SZ} {t j : Int} {k : Nat} (hk : k < F.length) (h : rowsS (F.drop k) t j = rowsS F t j) (hh : hitS t j F[k] = true) : rowsS F t j = some F[k].rows := by
  rw [← h, List.drop_eq_getElem_cons hk]
  unfold rowsS
  rw [List.find?_cons_of_pos hh]; rfl
theorem rowsS_drop_miss {F : List SZ} {t j : Int} {k : Nat} (hk : k < F.length) (h : rowsS (F.drop k) t j = rowsS F t j) (hh : hitS t j F[k] = false) : rowsS (F.drop (k + 1)) t j = rowsS F t j := by
  rw [← h, List.drop_eq_getElem_cons hk]
  unfold rowsS
  rw [List.find?_cons_of_neg (by rw [hh]; simp)]
theorem rowsS_end {F : List SZ} {t j : Int} {k : Nat} (hk : F.length ≤ k) (h : rowsS (F.drop k) t j = rowsS F t j) : rowsS F t j = none := by
  rw [← h, List.drop_of_length_le hk]; rfl
set_option maxRecDepth 100000 in
set_option maxHeartbeats 16000000 in
theorem rows60 (G X : Nat) (A : Option Addr) (n c : Nat) (F : List SZ) (t j : Int) (w : World) (hF : Row w A (cellsS F)) (hn : n = F.length) (hm : n ≤ 9223372036854775807) (hG : w.cell? ⟨G, 0, none⟩ = some (.slice A n c)) (hX : w.cell? ⟨X, 2, none⟩ = some (.int .i64 t)) :
    Calls Try.prog 60 #[.int .i64 j, .pointer (some ⟨G, 0, none⟩), .pointer (some ⟨X, 0, none⟩)] w fun e w' => e = .returned (.tuple #[.int .i64 ((rowsS F t j).getD 0), .bool (rowsS F t j).isSome]) ∧ Below w.heap.size w w' := by
  have HF := Lib.hid hF
  have HN := Lib.hid hn
  have HX := Lib.hid hX
  obtain ⟨o, ho⟩ : ∃ o, o = rowsS F t j := ⟨_, rfl⟩
  rw [← ho]
  have HO := Lib.hid ho
  clear hF hn hX ho
  go_enter Try.func60, Try.ntmps60
  go_upto_region 2 with fail
  go_loopw [10] (fun vi wr => ∃ k : Nat, k ≤ n ∧ vi = .int .i64 k ∧ Hid (rowsS (F.drop k) t j = rowsS F t j) ∧ Hid (Below w.heap.size w wr)) (fun vi _ => n - (intOf vi).toNat)
  case atStart => exact ⟨0, by omega, rfl, Lib.hid rfl, Lib.hid (Below.refl _ _)⟩
  case round =>
    obtain ⟨k, hk, rfl, HD, HB⟩ := hrel
    by_cases hlt : k < n
    case neg =>
      obtain rfl : k = n := by omega
      have hge : ¬ (k : Int) < (k : Int) := by omega
      have HE := Lib.hid (show o = none by rw [HO.out]; exact rowsS_end (by have := HN.out; omega) HD.out)
      clear hlt
      go_wp2_with fail
      go_ret2
      exact ⟨by rw [HE.out]; rfl, HB.out⟩
    case pos =>
    have hkz : k < F.length := by have := HN.out; omega
    have hki : (k : Int) < (n : Int) := by omega
    have hk0 : (0 : Int) ≤ (k : Int) := by omega
    obtain ⟨b, off, hAe, q0, q1, q2, q3⟩ := sz_cells (HF.out.keep (Nat.le_refl _) HB.out) hkz
    obtain ⟨x, hx⟩ : ∃ x, x = F[k] := ⟨_, rfl⟩
    rw [← hx] at q0 q1 q2 q3
    obtain ⟨nm, hnm⟩ : ∃ y, y = x.name := ⟨_, rfl⟩
    obtain ⟨xt, hxt⟩ : ∃ y, y = x.tier := ⟨_, rfl⟩
    obtain ⟨xj, hxj⟩ : ∃ y, y = x.proj := ⟨_, rfl⟩
    obtain ⟨xr, hxr⟩ : ∃ y, y = x.rows := ⟨_, rfl⟩
    rw [← hnm] at q0
    rw [← hxt] at q1
    rw [← hxj] at q2
    rw [← hxr] at q3
    have HH := Lib.hid (show hitS t j F[k] = (decide (xt = t) && decide (xj = j)) by rw [← hx, hxt, hxj]; rfl)
    have HR := Lib.hid (show F[k].rows = xr by rw [← hx, hxr])
    obtain ⟨wb, hwb⟩ : ∃ wb, wb = wr.alloc (.cells #[.string nm, .int .i64 xt, .int .i64 xj, .int .i64 xr] 57) := ⟨_, rfl⟩
    have hbb : Below wr.heap.size wr wb := by rw [hwb]; exact bpush (Below.refl _ _) _
    have hkb : Blk wb wr.heap.size 57 #[.string nm, .int .i64 xt, .int .i64 xj, .int .i64 xr] := by rw [hwb]; exact Blk.new _ _ _
    have HBB := Lib.hid (bthen HB.out hbb)
    have f1 := hkb.cell 1
    have f2 := hkb.cell 2
    have f3 := hkb.cell 3
    simp at f1 f2 f3
    have hx2 := cell_on HBB.out HX.out
    have HWB := Lib.hid hwb
    obtain ⟨g, hg⟩ : ∃ g, g = wr.heap.size := ⟨_, rfl⟩
    rw [← hg] at f1 f2 f3
    have HGG := Lib.hid hg
    subst hAe
    clear hx hnm hxt hxj hxr hwb hbb hkb hg hlt
    go_upto_region 4 with fail
    rw [← HWB.out, ← HGG.out]
    clear q0 q1 q2 q3
    by_cases e1 : xt = t
    case neg =>
      have HD2 := Lib.hid (rowsS_drop_miss hkz HD.out (by rw [HH.out, decide_eq_false e1]; rfl))
      have e1b : (xt == t) = false := by simp [e1]
      clear e1
      go_wp2_with fail
      go_roundw
      case rel => exact ⟨k + 1, by omega, by go_num, HD2, HBB⟩
      case measure => simp [intOf]; omega
    case pos =>
    by_cases e2 : xj = j
    case neg =>
      have HD2 := Lib.hid (rowsS_drop_miss hkz HD.out (by rw [HH.out, decide_eq_false e2]; simp))
      have e2b : (xj == j) = false := by simp [e2]
      subst e1
      clear e2
      go_wp2_with fail
      go_roundw
      case rel => exact ⟨k + 1, by omega, by go_num, HD2, HBB⟩
      case measure => simp [intOf]; omega
    case pos =>
      have HE := Lib.hid (show o = some xr by
        rw [HO.out, rowsS_drop_hit hkz HD.out (by rw [HH.out, decide_eq_true e1, decide_eq_true e2]; rfl), HR.out])
      subst e1 e2
      go_wp2_with fail
      go_ret2
      exact ⟨by rw [HE.out]; rfl, HBB.out⟩
set_option maxRecDepth 100000 in
set_option maxHeartbeats 16000000 in
theorem rrows_any (A : Option Addr) (n c : Nat) (F : List SZ) (t j : Int) (w : World) (hF : Row w A (cellsS F)) (hn : n = F.length) (hm : n ≤ 9223372036854775807) :
    Calls Try.prog 39 #[.slice A n c, .int .i64 t, .int .i64 j] w fun e w' => e = .returned (.tuple #[.int .i64 ((rowsS F t j).getD 0), .bool (rowsS F t j).isSome]) ∧ w = w' := by
  have HF := Lib.hid hF
  have HN := Lib.hid hn
  obtain ⟨o, ho⟩ : ∃ o, o = rowsS F t j := ⟨_, rfl⟩
  rw [← ho]
  have HO := Lib.hid ho
  clear hF hn ho
  go_enter Try.func39, Try.ntmps39
  go_upto_region 2 with fail
  go_loopw [8] (fun vi wr => ∃ k : Nat, k ≤ n ∧ vi = .int .i64 k ∧ Hid (rowsS (F.drop k) t j = rowsS F t j) ∧ wr = w) (fun vi _ => n - (intOf vi).toNat)
  case atStart => exact ⟨0, by omega, rfl, Lib.hid rfl, rfl⟩
  case round =>
    obtain ⟨k, hk, rfl, HD, rfl⟩ := hrel
    by_cases hlt : k < n
    case neg =>
      obtain rfl : k = n := by omega
      have hge : ¬ (k : Int) < (k : Int) := by omega
      have HE := Lib.hid (show o = none by rw [HO.out]; exact rowsS_end (by have := HN.out; omega) HD.out)
      clear hlt
      go_wp2_with fail
      go_ret2
      exact ⟨by rw [HE.out]; rfl, rfl⟩
    case pos =>
    have hkz : k < F.length := by have := HN.out; omega
    have hki : (k : Int) < (n : Int) := by omega
    have hk0 : (0 : Int) ≤ (k : Int) := by omega
    obtain ⟨b, off, hAe, q0, q1, q2, q3⟩ := sz_cells HF.out hkz
    obtain ⟨x, hx⟩ : ∃ x, x = F[k] := ⟨_, rfl⟩
    rw [← hx] at q0 q1 q2 q3
    obtain ⟨xt, hxt⟩ : ∃ y, y = x.tier := ⟨_, rfl⟩
    obtain ⟨xj, hxj⟩ : ∃ y, y = x.proj := ⟨_, rfl⟩
    obtain ⟨xr, hxr⟩ : ∃ y, y = x.rows := ⟨_, rfl⟩
    rw [← hxt] at q1
    rw [← hxj] at q2
    rw [← hxr] at q3
    have HH := Lib.hid (show hitS t j F[k] = (decide (xt = t) && decide (xj = j)) by rw [← hx, hxt, hxj]; rfl)
    have HR := Lib.hid (show F[k].rows = xr by rw [← hx, hxr])
    subst hAe
    clear hx hxt hxj hxr hlt q0
    by_cases e1 : xt = t
    case neg =>
      have HD2 := Lib.hid (rowsS_drop_miss hkz HD.out (by rw [HH.out, decide_eq_false e1]; rfl))
      have e1b : (xt == t) = false := by simp [e1]
      clear e1
      go_wp2_with fail
      go_roundw
      case rel => exact ⟨k + 1, by omega, by go_num, HD2, by first | rfl | trivial⟩
      case measure => simp [intOf]; omega
    case pos =>
    by_cases e2 : xj = j
    case neg =>
      have HD2 := Lib.hid (rowsS_drop_miss hkz HD.out (by rw [HH.out, decide_eq_false e2]; simp))
      have e2b : (xj == j) = false := by simp [e2]
      subst e1
      clear e2
      go_wp2_with fail
      go_roundw
      case rel => exact ⟨k + 1, by omega, by go_num, HD2, by first | rfl | trivial⟩
      case measure => simp [intOf]; omega
    case pos =>
      have HE := Lib.hid (show o = some xr by
        rw [HO.out, rowsS_drop_hit hkz HD.out (by rw [HH.out, decide_eq_true e1, decide_eq_true e2]; rfl), HR.out])
      subst e1 e2
      go_wp2_with fail
      go_ret2
      exact ⟨by rw [HE.out]; rfl, rfl⟩
end Go.Proofs.Ytgaallkdfcckpaa
